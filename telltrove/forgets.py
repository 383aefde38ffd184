"""What is forgotten at a retirement, and what is hidden in codes."""

from telltrove.books import book_of
from telltrove.recodes import recode_with
from telltrove.strands import strands_of
from telltrove.walks import Walks


def forgotten(house, epoch):
    """For each strand in which a retirement makes two codes one: its number and the least such pair."""
    walks = Walks(house)
    told = []
    for number, strand in enumerate(strands_of(house, epoch)):
        # The strand was one in the epoch ahead, too: the codes there are all numbers from 0 on, in order.
        pair = _least_twins([code for _, code in recode_with(walks, epoch, strand)])
        if pair is not None:
            told.append((number, *pair))
    return tuple(told)


def hidden(house, epoch, bundle):
    """The least pair of different codes of a bundle whose views are equal, or None."""
    return _least_twins(book_of(house, epoch, bundle)[3])


def _least_twins(things):
    """The least pair of different places with equal things, or None."""
    for c, thing in enumerate(things):
        for d in range(c + 1, len(things)):
            if things[d] == thing:
                return c, d
    return None
