"""How part states of a bundle are spread and extended."""

from telltrove.changes import led_flat
from telltrove.parts import form_in
from telltrove.spreads import change_between, outward


class Spreader:
    """Spreads and extends part states of one bundle; remembers what it has led, since few parts come often."""

    def __init__(self, house, bundle):
        self.forms = [form_in(house, bundle, version) for version in range(len(bundle))]
        self.parents = house.parents
        self.orders = [outward(house.parents, len(bundle), version) for version in range(len(bundle))]
        self.changes = {}
        for pairs in self.orders:
            for start, end in pairs:
                self.changes[start, end] = _steps_to(change_between(house, start, end), bundle[end])
        self.leds = {}

    def spread(self, before, version, part):
        """The part state in which a version has a part, and every other one what is led to it over a state or None."""
        olds = (None,) * len(self.forms) if before is None else before
        parts = list(olds)
        parts[version] = part
        for start, end in self.orders[version]:
            parts[end] = self._led(start, end, parts[start], olds[end])
        return tuple(parts)

    def extended(self, before):
        """The part state, with what is led to the last version of the bundle, that was a state without this version."""
        added = len(before)
        parent = self.parents[added]
        return (*before, self._led(parent, added, before[parent], None))

    def _led(self, start, end, part, old):
        """The part that is led from a version's part to its neighbour."""
        key = (start, end, part, old)
        if key not in self.leds:
            self.leds[key] = led_flat(self.forms[start], self.forms[end], self.changes[start, end], part, old)
        return self.leds[key]


def _steps_to(change, paths):
    """The steps of a change that lead to some of the paths; others have nothing to do in their bundle."""
    return tuple([step for step in change if any([path in paths for path in step[1]])])


def spread_part(house, bundle, state, version, part):
    """The part state in which a version has a part that is spread over a part state or None."""
    return Spreader(house, bundle).spread(state, version, part)


def extended_part(house, epoch, bundle, state):
    """The part state in an epoch that was another one in the epoch ahead."""
    if state is None or house.present(epoch) == house.present(epoch - 1):
        return state
    return Spreader(house, bundle).extended(state)


def bundle_then(house, epoch, bundle):
    """A bundle without the versions that are not present in an epoch."""
    return bundle[:house.present(epoch)]
