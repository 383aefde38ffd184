"""States of papers: how they are spread and extended, and which are in tune or forbidden."""

from telltrove.changes import led_flat, mirrored, related_flats
from telltrove.forms import flat_of, whole_of
from telltrove.letting import is_let


def spread(house, epoch, state, version, whole):
    """The state in which a version has a whole, and every other one what is led to it over a state."""
    olds = (None,) * house.present(epoch) if state is None else state
    wholes = {version: whole}
    number = version
    while house.parents[number] is not None:
        parent = house.parents[number]
        wholes[parent] = _led_up(house, number, wholes[number], olds[parent])
        number = parent
    # Parents have lower numbers, so each parent has its new whole before its children are led from it.
    for child in range(house.present(epoch)):
        if child not in wholes:
            wholes[child] = _led_down(house, child, wholes[house.parents[child]], olds[child])
    return tuple([wholes[child] for child in range(house.present(epoch))])


def _led_down(house, child, whole, old):
    """The whole of a version that is led from its parent's whole."""
    left = house.forms[house.parents[child]]
    return _led_whole(left, house.forms[child], house.changes[child], whole, old)


def _led_up(house, child, whole, old):
    """The whole of a version's parent that is led from the version's whole."""
    right = house.forms[house.parents[child]]
    return _led_whole(house.forms[child], right, mirrored(house.changes[child]), whole, old)


def _led_whole(left, right, change, whole, old):
    before = None if old is None else flat_of(right, old)
    return whole_of(right, led_flat(left, right, change, flat_of(left, whole), before))


def extended(house, epoch, state):
    """The state in an epoch that was another one in the epoch ahead."""
    if state is None or house.present(epoch) == house.present(epoch - 1):
        return state
    added = house.present(epoch) - 1
    return (*state, _led_down(house, added, state[house.parents[added]], None))


def in_tune(house, epoch, state):
    """Tells whether each two neighbours' wholes in a state are related."""
    for child in range(1, house.present(epoch)):
        parent = house.parents[child]
        left = house.forms[parent]
        right = house.forms[child]
        flats = (flat_of(left, state[parent]), flat_of(right, state[child]))
        if not related_flats(left, right, house.changes[child], flats[0], flats[1]):
            return False
    return True


def forbidden(house, epoch, state):
    """The numbers of the living versions to which a state is forbidden, ascending."""
    living = house.living(epoch)
    return tuple([version for version in living if not is_let(house.forms[version], state[version])])
