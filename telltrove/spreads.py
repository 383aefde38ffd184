"""States of papers: how they are spread and extended, and which are in tune or forbidden."""

from telltrove.changes import led_flat, mirrored, related_flats
from telltrove.forms import flat_of, whole_of
from telltrove.letting import is_let


def outward(parents, many, version):
    """The pairs of neighbours from which and to which is led outward from one of so many versions, in order."""
    pairs = []
    number = version
    while parents[number] is not None:
        pairs.append((number, parents[number]))
        number = parents[number]
    known = [version] + [end for _, end in pairs]
    # Parents have lower numbers, so each parent comes before its children are led from it.
    for child in range(many):
        if child not in known:
            pairs.append((parents[child], child))
    return tuple(pairs)


def change_between(house, start, end):
    """The change by which a version's neighbour is led from the version."""
    return house.changes[end] if house.parents[end] == start else mirrored(house.changes[start])


def spread(house, epoch, state, version, whole):
    """The state in which a version has a whole, and every other one what is led to it over a state."""
    olds = (None,) * house.present(epoch) if state is None else state
    wholes = list(olds)
    wholes[version] = whole
    for start, end in outward(house.parents, house.present(epoch), version):
        wholes[end] = _led_whole(house, start, end, wholes[start], olds[end])
    return tuple(wholes)


def _led_whole(house, start, end, whole, old):
    """The whole that is led from a version's whole to its neighbour."""
    left = house.forms[start]
    right = house.forms[end]
    before = None if old is None else flat_of(right, old)
    return whole_of(right, led_flat(left, right, change_between(house, start, end), flat_of(left, whole), before))


def extended(house, epoch, state):
    """The state in an epoch that was another one in the epoch ahead."""
    if state is None or house.present(epoch) == house.present(epoch - 1):
        return state
    added = house.present(epoch) - 1
    parent = house.parents[added]
    return (*state, _led_whole(house, parent, added, state[parent], None))


def in_tune(house, epoch, state):
    """Tells whether each two neighbours' wholes in a state are related."""
    for child in range(1, house.present(epoch)):
        parent = house.parents[child]
        left = house.forms[parent]
        right = house.forms[child]
        flats = (flat_of(left, state[parent]), flat_of(right, state[child]))
        if not related_flats(left, right, house.changes[child], flats[0], flats[1]):
            return False
    return True


def forbidden(house, epoch, state):
    """The numbers of the living versions to which a state is forbidden, ascending."""
    living = house.living(epoch)
    return tuple([version for version in living if not is_let(house.forms[version], state[version])])
