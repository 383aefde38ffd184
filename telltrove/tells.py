"""What one version tells of another one."""

from telltrove.strands import bundle_of
from telltrove.walks import Walks


def told_by(house, epoch, version, paths, other):
    """Whether a living version tells the values of some leaves of another one, and how, or where it does not."""
    bundle = bundle_of(house, epoch, tuple([(version, path) for path in paths]))
    states = Walks(house).walk(epoch, bundle).states
    values = [_in_order(bundle[version], parts[version], paths) for parts in states]
    pair = least_open(states, other, values)
    if pair is not None:
        return "open", *pair
    told = {parts[other]: value for parts, value in zip(states, values)}
    return "told", tuple(sorted(told.items()))


def _in_order(own, part, paths):
    """Of a part, whose leaves have the paths own, the values of the leaves with some paths, in the order of these."""
    values = dict(zip(own, part))
    return tuple([values[path] for path in paths])


def least_open(states, other, answers):
    """The least pair of states with the same part of the other version and unlike answers, or None.

    The states are ascending, and answers has one of each of them.
    """
    for place, parts in enumerate(states):
        for later in range(place + 1, len(states)):
            if states[later][other] == parts[other] and answers[later] != answers[place]:
                return parts, states[later]
    return None
