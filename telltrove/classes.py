"""Classes of states that no client of a living version can tell apart."""

from telltrove.rounds import rounds_of
from telltrove.walks import Walks


def classes_of(house, epoch, bundle):
    """Pairs of each reached state of a bundle in an epoch and its code, ascending."""
    walk = Walks(house).walk(epoch, bundle)
    return tuple(zip(walk.states, codes_in(walk)))


def codes_in(walk):
    """The codes of the states of a walk, in order."""
    return rounds_of(walk.views(), walk.moves)[-1]
