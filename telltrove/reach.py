"""Reached states and their least rows."""

from telltrove.walks import Walks


def reached(house, epoch, bundle):
    """Pairs of each reached state of a bundle in an epoch and its least row, ascending."""
    walk = Walks(house).walk(epoch, bundle)
    return tuple(zip(walk.states, walk.rows))
