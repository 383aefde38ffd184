"""Deeds of a bundle, and rows of them."""

from telltrove.bundles import bundle_then, extended_part, spread_part
from telltrove.letting import ask_small_groups, least_with
from telltrove.parts import let_parts_of


def deeds_of(house, epoch, bundle):
    """All deeds of a bundle in an epoch, ascending."""
    deeds = []
    for version in house.living(epoch):
        deeds.extend([(epoch, version, part) for part in let_parts_of(house, bundle, version)])
    return tuple(deeds)


def played(house, epoch, bundle, row):
    """The part state in an epoch behind a row, None behind the empty one."""
    past = 0
    state = None
    for at, version, part in row:
        before = _later(house, bundle, past, at, state)
        state = spread_part(house, bundle_then(house, at, bundle), before, version, part)
        past = at
    return _later(house, bundle, past, epoch, state)


def _later(house, bundle, past, epoch, state):
    """What a part state of a past epoch is in an epoch."""
    for at in range(past + 1, epoch + 1):
        state = extended_part(house, at, bundle_then(house, at, bundle), state)
    return state


def whole_row(house, bundle, row):
    """The row of whole deeds, filled in with the least let parts of all other groups."""
    for _, version, _ in row:
        ask_small_groups(house.forms[version])
    return tuple([(at, version, least_with(house.forms[version], bundle[version], part)) for at, version, part in row])
