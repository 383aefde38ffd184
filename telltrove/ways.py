"""Ways between kinds: when they fit, and their mirrors."""

from telltrove.checks import differ, is_int
from telltrove.kinds import is_value, size_of

MOST_DEPTH = 6
MOST_TABLE = 20
NOTHING = ("rec", ())


def fits(way, left, right):
    """Tells whether a way fits a left and a right kind."""
    return _fits(way, left, right, MOST_DEPTH)


def _fits(way, left, right, depth):
    """Tells whether a way fits, and is at most so many ways deep."""
    word = way[0] if way else ""
    if depth == 0 or word not in CHECKS:
        return False
    check = CHECKS[word]
    return check(way, left, right, depth - 1)


def _same_fits(way, left, right, depth):
    return left == right


def _rank_fits(way, left, right, depth):
    return size_of(left) == size_of(right)


def _table_fits(way, left, right, depth):
    sizes = (size_of(left), size_of(right))
    if max(sizes) > MOST_TABLE:
        return False
    return _is_row_of(right, sizes[0], way[1]) and _is_row_of(left, sizes[1], way[2])


def _is_row_of(kind, many, values):
    """Tells whether a thing is a tuple of so many values of the kind."""
    if not isinstance(values, tuple) or len(values) != many:
        return False
    return all(is_value(kind, value) for value in values)


def _clip_fits(way, left, right, depth):
    return left[0] == "num" and right[0] == "num"


def _apart_fits(way, left, right, depth):
    return is_value(left, way[1]) and is_value(right, way[2])


def _some_fits(way, left, right, depth):
    return right[0] == "opt" and _fits(way[1], left, right[1], depth) and is_value(left, way[2])


def _must_fits(way, left, right, depth):
    return left[0] == "opt" and _fits(way[1], left[1], right, depth) and is_value(right, way[2])


def _opt_fits(way, left, right, depth):
    return left[0] == "opt" and right[0] == "opt" and _fits(way[1], left[1], right[1], depth)


def _each_fits(way, left, right, depth):
    return left[0] == "row" and right[0] == "row" and _fits(way[1], left[1], right[1], depth)


def _arms_fits(way, left, right, depth):
    if left[0] != "one" or right[0] != "one":
        return False
    lefts = dict(left[1])
    rights = dict(right[1])
    pairs = [(tag, other) for tag, other, _ in way[1]]
    if not differ(pairs) or set([tag for tag, _ in pairs]) != set(list(lefts)):
        return False
    if set([other for _, other in pairs]) != set(list(rights)):
        return False
    return all(_fits(inner, lefts[tag], rights[other], depth) for tag, other, inner in way[1])


def _parts_fits(way, left, right, depth):
    if left[0] != "rec" or right[0] != "rec":
        return False
    trios = way[1]
    if any(place is None and other is None for place, other, _ in trios):
        return False
    if not _is_each_place([place for place, _, _ in trios], len(left[1])):
        return False
    if not _is_each_place([other for _, other, _ in trios], len(right[1])):
        return False
    return all(_fits(inner, kind_in(left, place), kind_in(right, other), depth) for place, other, inner in trios)


def _is_each_place(places, many):
    """Tells whether each place below many stands once among the places, and besides only None."""
    told = [place for place in places if place is not None]
    return all(is_int(place, 0, many - 1) for place in told) and sorted(told) == list(range(many))


def kind_in(kind, place):
    """The kind of the part at a place of a rec; without a place there is nothing."""
    return NOTHING if place is None else kind[1][place][1]


CHECKS = {
    "same": _same_fits,
    "rank": _rank_fits,
    "table": _table_fits,
    "clip": _clip_fits,
    "apart": _apart_fits,
    "some": _some_fits,
    "must": _must_fits,
    "opt": _opt_fits,
    "each": _each_fits,
    "arms": _arms_fits,
    "parts": _parts_fits,
}
EXCHANGED = {"some": "must", "must": "some"}


def mirror(way):
    """The way for the exchanged sides."""
    word = way[0]
    if word in ("table", "apart"):
        return word, way[2], way[1]
    if word in EXCHANGED:
        return EXCHANGED[word], mirror(way[1]), way[2]
    if word in ("opt", "each"):
        return word, mirror(way[1])
    if word in ("arms", "parts"):
        return word, tuple([(second, first, mirror(inner)) for first, second, inner in way[1]])
    return way
