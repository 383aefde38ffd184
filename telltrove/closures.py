"""Whether states that are told for each epoch are closed under all that happens."""

from telltrove.bundles import Spreader, bundle_then
from telltrove.forms import is_whole
from telltrove.rows import deeds_of


def is_closed(house, epoch, bundle, told):
    """Tells whether told has part states of a bundle for each epoch up to this one, and all that comes of them."""
    if len(told) != epoch + 1:
        return False
    aheads = ()
    for at, states in enumerate(told):
        if not _is_closed_in(house, at, bundle_then(house, at, bundle), aheads, states):
            return False
        aheads = states
    return True


def _is_closed_in(house, epoch, bundle, aheads, states):
    """Tells whether states are closed under the deeds of an epoch, and have what comes of those of the epoch ahead."""
    spreader = Spreader(house, bundle)
    # Only right states can be looked up: others can be nested too deeply.
    if not all([_is_part_state(spreader.forms, parts) for parts in states]):
        return False
    among = {parts: True for parts in states}
    for parts in aheads:
        after = spreader.extended(parts) if house.events[epoch][0] == "add" else parts
        if after not in among:
            return False
    for _, version, part in deeds_of(house, epoch, bundle):
        for before in (None, *list(among)):
            if spreader.spread(before, version, part) not in among:
                return False
    return True


def _is_part_state(forms, parts):
    """Tells whether a thing has one part for each of the forms, which have the leaves of a bundle."""
    if not isinstance(parts, tuple) or len(parts) != len(forms):
        return False
    return all([is_whole(form, part) for form, part in zip(forms, parts)])
