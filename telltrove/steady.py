"""Whether a way is steady, and what it loses."""

from telltrove.errors import TooLarge
from telltrove.kinds import size_of, values_of
from telltrove.leading import led

MOST_VALUES = 12


def unsteady(way, left, right):
    """The least (b, a, c) such that leading from a on the way to c leaves a trace in b, or None."""
    _ask_small(left, right)
    lefts = values_of(left)
    for b in values_of(right):
        straight = [led(way, left, right, c, b) for c in lefts]
        for a in lefts:
            over = led(way, left, right, a, b)
            for c, value in zip(lefts, straight):
                if led(way, left, right, c, over) != value:
                    return b, a, c
    return None


def lost_pair(way, left, right):
    """The least pair of left values from which the same right value is led with none, or None."""
    _ask_small(left, right)
    lefts = values_of(left)
    leds = [led(way, left, right, a) for a in lefts]
    for place, value in enumerate(leds):
        for other in range(place + 1, len(leds)):
            if leds[other] == value:
                return lefts[place], lefts[other]
    return None


def _ask_small(left, right):
    if max(size_of(left), size_of(right)) > MOST_VALUES:
        raise TooLarge("way")
