"""Changes from a form to another one, and what they lead."""

from telltrove.forms import leaves_of
from telltrove.leading import led, related
from telltrove.ways import mirror

PART_NAMES = ("a", "b", "c", "d")


def side_kind(form, paths):
    """The kind of a side of a step."""
    return _kind_of_side(dict(leaves_of(form)), paths)


def _kind_of_side(kinds, paths):
    """The kind of a side, if kinds has the kind of each path."""
    if len(paths) == 1:
        return kinds[paths[0]]
    return "rec", tuple([(name, kinds[path]) for name, path in zip(PART_NAMES, paths)])


def _value_of_side(values, paths):
    """The value of a side, if values has the value of each path."""
    if len(paths) == 1:
        return values[paths[0]]
    return tuple([values[path] for path in paths])


def mirrored(change):
    """The change that leads back."""
    return tuple([(rights, lefts, mirror(way)) for lefts, rights, way in change])


def led_flat(left, right, change, flat, old=None):
    """The flat of the right form that is led from one of the left form, with the right flat old or with none."""
    left_kinds = dict(leaves_of(left))
    right_kinds = dict(leaves_of(right))
    values = dict(zip(list(left_kinds), flat))
    olds = None if old is None else dict(zip(list(right_kinds), old))
    news = {}
    for lefts, rights, way in change:
        kinds = (_kind_of_side(left_kinds, lefts), _kind_of_side(right_kinds, rights))
        before = None if olds is None else _value_of_side(olds, rights)
        value = led(way, kinds[0], kinds[1], _value_of_side(values, lefts), before)
        parts = (value,) if len(rights) == 1 else value
        for path, part in zip(rights, parts):
            news[path] = part
    return tuple([news[path] for path in right_kinds])


def related_flats(left, right, change, flat, other):
    """Tells whether all steps relate their sides in a flat of the left form and another one of the right form."""
    left_kinds = dict(leaves_of(left))
    right_kinds = dict(leaves_of(right))
    values = dict(zip(list(left_kinds), flat))
    others = dict(zip(list(right_kinds), other))
    for lefts, rights, way in change:
        kinds = (_kind_of_side(left_kinds, lefts), _kind_of_side(right_kinds, rights))
        if not related(way, kinds[0], kinds[1], _value_of_side(values, lefts), _value_of_side(others, rights)):
            return False
    return True
