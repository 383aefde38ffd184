"""Which values a way relates, and what it leads."""

from telltrove.kinds import rank_of, value_at
from telltrove.ways import kind_in

# The words whose ways keep a right value that was there before, if it is related.
STAYING = ("table", "clip", "apart", "some", "must")


def related(way, left, right, a, b):
    """Tells whether a way relates a left value a and a right value b."""
    relate = RELATIONS[way[0]]
    return relate(way, left, right, a, b)


def led(way, left, right, a, b=None):
    """The right value that is led from a, with the right value b that was there before, or with none."""
    if way[0] in STAYING and b is not None and related(way, left, right, a, b):
        return b
    lead = LEADS[way[0]]
    return lead(way, left, right, a, b)


def _same_related(way, left, right, a, b):
    return a == b


def _same_led(way, left, right, a, b):
    return a


def _rank_related(way, left, right, a, b):
    return rank_of(left, a) == rank_of(right, b)


def _rank_led(way, left, right, a, b):
    return value_at(right, rank_of(left, a))


def _table_related(way, left, right, a, b):
    return way[1][rank_of(left, a)] == b or way[2][rank_of(right, b)] == a


def _table_led(way, left, right, a, b):
    return way[1][rank_of(left, a)]


def _clip_related(way, left, right, a, b):
    return b == _nearest(right, a) or a == _nearest(left, b)


def _clip_led(way, left, right, a, b):
    return _nearest(right, a)


def _nearest(kind, number):
    """The number of the kind that is nearest to a number."""
    return max(kind[1], min(kind[2], number))


def _apart_related(way, left, right, a, b):
    return True


def _apart_led(way, left, right, a, b):
    return way[2]


def _some_related(way, left, right, a, b):
    if not b:
        return a == way[2]
    return related(way[1], left, right[1], a, b[0])


def _some_led(way, left, right, a, b):
    return (led(way[1], left, right[1], a, b[0] if b else None),)


def _must_related(way, left, right, a, b):
    if not a:
        return b == way[2]
    return related(way[1], left[1], right, a[0], b)


def _must_led(way, left, right, a, b):
    return led(way[1], left[1], right, a[0], b) if a else way[2]


def _opt_related(way, left, right, a, b):
    if not a or not b:
        return a == b
    return related(way[1], left[1], right[1], a[0], b[0])


def _opt_led(way, left, right, a, b):
    if not a:
        return ()
    return (led(way[1], left[1], right[1], a[0], b[0] if b else None),)


def _each_related(way, left, right, a, b):
    many = min(left[2], right[2])
    if min(many, len(a)) != min(many, len(b)):
        return False
    return all(related(way[1], left[1], right[1], x, y) for x, y in zip(a[:many], b[:many]))


def _each_led(way, left, right, a, b):
    many = min(left[2], right[2])
    olds = () if b is None else b
    row = []
    for place, x in enumerate(a[:many]):
        row.append(led(way[1], left[1], right[1], x, olds[place] if place < len(olds) else None))
    if len(a) >= many:
        row.extend(olds[many:])
    return tuple(row)


def _inner_kind(kind, tag):
    """The kind of the arm with this tag."""
    return dict(kind[1])[tag]


def _arms_related(way, left, right, a, b):
    for tag, other, inner in way[1]:
        if tag == a[0] and other == b[0]:
            return related(inner, _inner_kind(left, tag), _inner_kind(right, other), a[1], b[1])
    return False


def _arms_led(way, left, right, a, b):
    firsts = [(other, inner) for tag, other, inner in way[1] if tag == a[0]]
    for other, inner in firsts:
        if b is not None and other == b[0]:
            return other, led(inner, _inner_kind(left, a[0]), _inner_kind(right, other), a[1], b[1])
    other, inner = firsts[0]
    return other, led(inner, _inner_kind(left, a[0]), _inner_kind(right, other), a[1])


def _value_in(value, place):
    """The part at a place of a value of a rec; without a place there is nothing."""
    return () if place is None else value[place]


def _parts_related(way, left, right, a, b):
    for place, other, inner in way[1]:
        kinds = (kind_in(left, place), kind_in(right, other))
        if not related(inner, kinds[0], kinds[1], _value_in(a, place), _value_in(b, other)):
            return False
    return True


def _parts_led(way, left, right, a, b):
    parts = {}
    for place, other, inner in way[1]:
        if other is not None:
            old = None if b is None else b[other]
            parts[other] = led(inner, kind_in(left, place), kind_in(right, other), _value_in(a, place), old)
    return tuple([parts[other] for other in range(len(right[1]))])


RELATIONS = {
    "same": _same_related,
    "rank": _rank_related,
    "table": _table_related,
    "clip": _clip_related,
    "apart": _apart_related,
    "some": _some_related,
    "must": _must_related,
    "opt": _opt_related,
    "each": _each_related,
    "arms": _arms_related,
    "parts": _parts_related,
}
LEADS = {
    "same": _same_led,
    "rank": _rank_led,
    "table": _table_led,
    "clip": _clip_led,
    "apart": _apart_led,
    "some": _some_led,
    "must": _must_led,
    "opt": _opt_led,
    "each": _each_led,
    "arms": _arms_led,
    "parts": _parts_led,
}
