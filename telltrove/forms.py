"""Forms, their leaves, and wholes and flats."""

from telltrove.checks import are_base_names, differ
from telltrove.formulas import is_formula
from telltrove.kinds import are_values, is_kind

MOST_FIELDS = 8
MOST_LEAVES = 12
MOST_RULES = 8


def is_form(form):
    """Tells whether a form is right."""
    if form[:1] != ("form",) or len(form[2]) > MOST_RULES:
        return False
    names = [name for name, _ in form[1]]
    if not are_base_names(names, 1, MOST_FIELDS) or not differ(names):
        return False
    if not all(is_kind(kind) for _, kind in form[1]):
        return False
    leaves = leaves_of(form)
    return len(leaves) <= MOST_LEAVES and all(is_formula(leaves, rule) for rule in form[2])


def is_whole(form, value):
    """Tells whether a thing is a whole of the form, let or not."""
    return isinstance(value, tuple) and are_values([kind for _, kind in form[1]], value)


def leaves_of(form):
    """The leaves of a form: pairs of a path and a kind, in order."""
    return tuple(_leaves_within("", form[1]))


def _leaves_within(front, pairs):
    """The leaves of fields or parts; their paths begin with front."""
    leaves = []
    for name, kind in pairs:
        if kind[0] == "rec":
            leaves.extend(_leaves_within(front + name + ".", kind[1]))
        else:
            leaves.append((front + name, kind))
    return leaves


def flat_of(form, whole):
    """The tuple of the values of a whole's leaves, in order."""
    return tuple(_values_within(form[1], whole))


def _values_within(pairs, values):
    flat = []
    for (_, kind), value in zip(pairs, values):
        if kind[0] == "rec":
            flat.extend(_values_within(kind[1], value))
        else:
            flat.append(value)
    return flat


def whole_of(form, flat):
    """The whole of a form that has this flat."""
    return _built(form[1], flat, 0)[0]


def _built(pairs, flat, at):
    """The values of fields or parts, which begin at a place of the flat, and the place behind them."""
    values = []
    for _, kind in pairs:
        if kind[0] == "rec":
            value, at = _built(kind[1], flat, at)
            values.append(value)
        else:
            values.append(flat[at])
            at += 1
    return tuple(values), at
