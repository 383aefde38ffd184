"""Let papers: closed tables that show that no form is ever broken."""

from telltrove.closures import is_closed
from telltrove.parts import let_parts_of
from telltrove.strands import strands_of
from telltrove.walks import Walks


def let_paper(house):
    """The let paper of all reached states."""
    walks = Walks(house)
    last = len(house.events) - 1
    return tuple([walks.states_by_epochs(last, strand) for strand in strands_of(house, last)])


def judge_let(house, paper):
    """Tells whether a let paper shows that no form is ever broken."""
    last = len(house.events) - 1
    strands = strands_of(house, last)
    if len(paper) != len(strands):
        return False
    return all([_is_let_strand(house, last, strand, told) for strand, told in zip(strands, paper)])


def _is_let_strand(house, last, strand, told):
    """Tells whether what is told of a strand is closed, and forbidden to no living version."""
    if not is_closed(house, last, strand, told):
        return False
    lets = [let_parts_of(house, strand, version) for version in range(len(strand))]
    for epoch, states in enumerate(told):
        for version in house.living(epoch):
            if not all([parts[version] in lets[version] for parts in states]):
                return False
    return True
