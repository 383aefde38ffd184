"""The verdict on a house."""

from telltrove.errors import TooLarge
from telltrove.letting import least_let
from telltrove.strands import strands_of
from telltrove.walks import Walks

LET = ("let",)


def verdict(house):
    """Whether no row of deeds ever shows a client a forbidden whole, or the first reason why not."""
    return verdict_with(Walks(house))


def verdict_with(walks):
    """The verdict on the house of the walks."""
    for epoch, event in enumerate(walks.house.events):
        told = LET if event[0] == "retire" else _verdict_in(walks, epoch)
        if told != LET:
            return told
    return LET


def _verdict_in(walks, epoch):
    """What is told in an epoch that opens or adds a version."""
    house = walks.house
    try:
        least = least_let(house.forms[house.present(epoch) - 1])
    except TooLarge:
        return "large", epoch
    if least is None:
        return "empty", epoch
    for number, strand in enumerate(strands_of(house, epoch)):
        try:
            walk = walks.walk(epoch, strand)
        except TooLarge:
            return "large", epoch
        least_break = _least_break(walk)
        if least_break is not None:
            return "breaks", epoch, number, *least_break
    return LET


def _least_break(walk):
    """The least row to a forbidden state and the first living version to which it is so, None if there is none."""
    lets = {deed: True for deed in walk.deeds}
    breaks = []
    for parts, row in zip(walk.states, walk.rows):
        unlet = [version for version in walk.alive if (version, parts[version]) not in lets]
        if unlet:
            breaks.append((len(row), row, unlet[0]))
    return min(breaks)[1:] if breaks else None
