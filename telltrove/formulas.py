"""Formulas about leaves: which are right, what they mention, and when they are true."""

from telltrove.checks import is_int
from telltrove.kinds import is_value

MOST_DEPTH = 6
MOST_NUMBER = 3000


def is_formula(leaves, formula):
    """Tells whether a formula is right for leaves, which are pairs of a path and a kind."""
    return _is_right({path: kind for path, kind in leaves}, formula, MOST_DEPTH)


def _is_right(kinds, formula, depth):
    """Tells whether a formula is right, and at most so many formulas deep."""
    word = formula[0] if formula else ""
    if depth == 0:
        return False
    if word == "not":
        return _is_right(kinds, formula[1], depth - 1)
    if word == "and" or word == "or":
        return _is_right(kinds, formula[1], depth - 1) and _is_right(kinds, formula[2], depth - 1)
    if word not in CHECKS or formula[1] not in kinds:
        return False
    check = CHECKS[word]
    return check(kinds, formula, kinds[formula[1]])


def _is_number(thing):
    return is_int(thing, -MOST_NUMBER, MOST_NUMBER)


def _is_right_is(kinds, formula, kind):
    return is_value(kind, formula[2])


def _is_right_most(kinds, formula, kind):
    return kind[0] == "num" and _is_number(formula[2])


def _is_right_upto(kinds, formula, kind):
    if kind[0] != "num" or formula[2] not in kinds:
        return False
    return kinds[formula[2]][0] == "num" and _is_number(formula[3])


def _is_right_same(kinds, formula, kind):
    return formula[2] in kinds and kinds[formula[2]] == kind


def _is_right_has(kinds, formula, kind):
    return kind[0] == "opt"


def _is_right_tag(kinds, formula, kind):
    return kind[0] == "one" and any(formula[2] == tag for tag, _ in kind[1])


def _is_right_long(kinds, formula, kind):
    return kind[0] == "row" and _is_number(formula[2])


CHECKS = {
    "is": _is_right_is,
    "most": _is_right_most,
    "upto": _is_right_upto,
    "same": _is_right_same,
    "has": _is_right_has,
    "tag": _is_right_tag,
    "long": _is_right_long,
}


def paths_of(formula):
    """The different paths of a formula, ascending."""
    return tuple(sorted(set(_mentioned(formula))))


def _mentioned(formula):
    """The paths of a formula as they stand, as often as they stand."""
    word = formula[0]
    if word == "not":
        return _mentioned(formula[1])
    if word == "and" or word == "or":
        return _mentioned(formula[1]) + _mentioned(formula[2])
    if word == "upto" or word == "same":
        return [formula[1], formula[2]]
    return [formula[1]]


def holds(formula, paths, part):
    """Tells whether a formula is true of leaves with these paths and the values in part."""
    return _is_true(formula, dict(zip(paths, part)))


def _is_true(formula, values):
    word = formula[0]
    if word == "not":
        return not _is_true(formula[1], values)
    if word == "and":
        return _is_true(formula[1], values) and _is_true(formula[2], values)
    if word == "or":
        return _is_true(formula[1], values) or _is_true(formula[2], values)
    value = values[formula[1]]
    if word == "is":
        return value == formula[2]
    if word == "most":
        return value <= formula[2]
    if word == "upto":
        return value <= values[formula[2]] + formula[3]
    if word == "same":
        return value == values[formula[2]]
    if word == "has":
        return len(value) > 0
    if word == "tag":
        return value[0] == formula[2]
    return len(value) >= formula[2]
