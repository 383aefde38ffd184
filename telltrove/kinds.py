"""Kinds, their values, and the order of the values."""

from telltrove.checks import are_base_names, ascend, differ, is_int

MOST_DEPTH = 4
MOST_SIZE = 1000000000000000000


def is_kind(kind):
    """Tells whether a kind is right."""
    # The size is asked last: without the bounds on depth and numbers it could be too large to be reckoned.
    return _is_right(kind, MOST_DEPTH) and size_of(kind) <= MOST_SIZE


def _is_right(kind, depth):
    """Tells whether a kind is right, but for its size, and at most so many kinds deep."""
    word = kind[0] if kind else ""
    if depth == 0 or word not in CHECKS:
        return False
    check = CHECKS[word]
    return check(kind, depth - 1)


def _is_right_num(kind, _):
    return is_int(kind[1], -1000, 1000) and is_int(kind[2], kind[1], 1000)


def _is_right_pick(kind, _):
    return are_base_names(kind[1], 1, 12) and ascend(kind[1])


def _is_right_opt(kind, depth):
    return _is_right(kind[1], depth)


def _is_right_row(kind, depth):
    return is_int(kind[2], 1, 4) and _is_right(kind[1], depth)


def _is_right_one(kind, depth):
    tags = [tag for tag, _ in kind[1]]
    return are_base_names(tags, 1, 6) and ascend(tags) and _are_right(kind[1], depth)


def _is_right_rec(kind, depth):
    names = [name for name, _ in kind[1]]
    return are_base_names(names, 0, 6) and differ(names) and _are_right(kind[1], depth)


def _are_right(pairs, depth):
    return all(_is_right(inner, depth) for _, inner in pairs)


CHECKS = {
    "num": _is_right_num,
    "pick": _is_right_pick,
    "opt": _is_right_opt,
    "row": _is_right_row,
    "one": _is_right_one,
    "rec": _is_right_rec,
}


def is_value(kind, value):
    """Tells whether a thing is a value of the kind."""
    word = kind[0]
    if word == "num":
        return is_int(value, kind[1], kind[2])
    if word == "pick":
        return value in kind[1]
    if not isinstance(value, tuple):
        return False
    if word == "opt":
        return len(value) == 0 or len(value) == 1 and is_value(kind[1], value[0])
    if word == "row":
        return len(value) <= kind[2] and all(is_value(kind[1], inner) for inner in value)
    if word == "one":
        return len(value) == 2 and _is_arm_value(kind[1], value[0], value[1])
    return are_values([inner for _, inner in kind[1]], value)


def _is_arm_value(arms, tag, value):
    return any(tag == own and is_value(inner, value) for own, inner in arms)


def are_values(kinds, values):
    """Tells whether a tuple has one value of each of the kinds, in order."""
    return len(values) == len(kinds) and all(is_value(kind, value) for kind, value in zip(kinds, values))


def size_of(kind):
    """The number of values of a kind."""
    word = kind[0]
    if word == "num":
        return kind[2] - kind[1] + 1
    if word == "pick":
        return len(kind[1])
    if word == "opt":
        return 1 + size_of(kind[1])
    if word == "row":
        return _rows_up_to(size_of(kind[1]), kind[2])
    if word == "one":
        return sum(size_of(inner) for _, inner in kind[1])
    return size_of_all([inner for _, inner in kind[1]])


def size_of_all(kinds):
    """The product of the sizes of kinds, 1 if there are none."""
    size = 1
    for kind in kinds:
        size = size * size_of(kind)
    return size


def _rows_up_to(size, most):
    """The number of rows of 0 to most values of a kind with this size."""
    many = 1
    for _ in range(most):
        many = 1 + size * many
    return many


def rank_of(kind, value):
    """The number of values of the kind that are less than this one."""
    word = kind[0]
    if word == "num":
        return value - kind[1]
    if word == "pick":
        return kind[1].index(value)
    if word == "opt":
        return 1 + rank_of(kind[1], value[0]) if value else 0
    if word == "row":
        return _rank_of_row(kind, value)
    if word == "one":
        return _rank_of_arm(kind[1], value)
    rank = 0
    for (_, inner), part in zip(kind[1], value):
        rank = rank * size_of(inner) + rank_of(inner, part)
    return rank


def _rank_of_row(kind, row):
    size = size_of(kind[1])
    rank = 0
    for place, value in enumerate(row):
        # Less are the row that ends here, and all rows with a lesser value at this place.
        rank += 1 + rank_of(kind[1], value) * _rows_up_to(size, kind[2] - place - 1)
    return rank


def _rank_of_arm(arms, value):
    place = [tag for tag, _ in arms].index(value[0])
    ahead = sum([size_of(inner) for _, inner in arms[:place]])
    return ahead + rank_of(arms[place][1], value[1])


def value_at(kind, rank):
    """The value of the kind with this rank."""
    word = kind[0]
    if word == "num":
        return kind[1] + rank
    if word == "pick":
        return kind[1][rank]
    if word == "opt":
        return (value_at(kind[1], rank - 1),) if rank else ()
    if word == "row":
        return _row_at(kind, rank)
    if word == "one":
        return _arm_at(kind[1], rank)
    parts = []
    for _, inner in reversed(kind[1]):
        rank, low = divmod(rank, size_of(inner))
        parts.append(value_at(inner, low))
    return tuple(parts[::-1])


def _row_at(kind, rank):
    size = size_of(kind[1])
    row = []
    while rank > 0:
        place, rank = divmod(rank - 1, _rows_up_to(size, kind[2] - len(row) - 1))
        row.append(value_at(kind[1], place))
    return tuple(row)


def _arm_at(arms, rank):
    place = 0
    while rank >= size_of(arms[place][1]):
        rank -= size_of(arms[place][1])
        place += 1
    return arms[place][0], value_at(arms[place][1], rank)


def values_of(kind):
    """All values of a kind, ascending; for small kinds."""
    return tuple([value_at(kind, rank) for rank in range(size_of(kind))])


def tuples_of(kinds):
    """All tuples of one value of each of the kinds, ascending; for few of them."""
    rows = [()]
    for kind in kinds:
        values = values_of(kind)
        rows = [row + (value,) for row in rows for value in values]
    return tuple(rows)
