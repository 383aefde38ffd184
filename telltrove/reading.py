"""House texts are read as the events that they mean.

Each row of the grammar is known by its first token, so the first token that fits nowhere is the first bad one.
Words that only stand in front of a row are gathered in loops: recursion is as deep as brackets are.
"""

from telltrove.cursor import Cursor
from telltrove.tokens import tokens_of


def read_house(text):
    """The events of a text."""
    cursor = Cursor(tokens_of(text))
    events = []
    while cursor.seen() != "":
        events.append(_event(cursor))
    return tuple(events)


def _event(cursor):
    if cursor.passes("open"):
        name = cursor.take_name()
        form, _ = _form_and_steps(cursor, False)
        return "open", name, form
    if cursor.passes("add"):
        name = cursor.take_name()
        cursor.take("from")
        parent = cursor.take_name()
        form, change = _form_and_steps(cursor, True)
        return "add", name, parent, form, change
    cursor.take("retire")
    name = cursor.take_name()
    cursor.take(";")
    return "retire", name


def _form_and_steps(cursor, has_steps):
    cursor.take("{")
    fields = _fields(cursor)
    rules = []
    while cursor.passes("rule"):
        rules.append(_formula(cursor))
        cursor.take(";")
    steps = []
    while has_steps and cursor.passes("step"):
        steps.append(_step(cursor))
    cursor.take("}")
    return ("form", fields, tuple(rules)), tuple(steps)


def _fields(cursor):
    fields = []
    while cursor.sees_name():
        fields.append(_field(cursor))
    return tuple(fields)


def _field(cursor):
    name = cursor.take_name()
    cursor.take(":")
    kind = _kind(cursor)
    cursor.take(";")
    return name, kind


def _kind(cursor):
    fronts = []
    while cursor.seen() in ("opt", "row"):
        fronts.append(_kind_front(cursor))
    kind = _kind_behind(cursor)
    for word, more in reversed(fronts):
        kind = (word, kind, *more)
    return kind


def _kind_front(cursor):
    """A word in front of a kind, and what stands behind the kind in its tuple."""
    if cursor.passes("opt"):
        return "opt", ()
    cursor.take("row")
    most = cursor.take_int()
    cursor.take("of")
    return "row", (most,)


def _kind_behind(cursor):
    if cursor.passes("num"):
        low = cursor.take_int()
        cursor.take("..")
        return "num", low, cursor.take_int()
    if cursor.passes("pick"):
        return "pick", _picked(cursor)
    if cursor.passes("one"):
        cursor.take("{")
        first = _field(cursor)
        arms = (first, *_fields(cursor))
        cursor.take("}")
        return "one", arms
    cursor.take("rec")
    cursor.take("{")
    parts = _fields(cursor)
    cursor.take("}")
    return "rec", parts


def _picked(cursor):
    cursor.take("{")
    names = [cursor.take_name()]
    while cursor.passes(","):
        names.append(cursor.take_name())
    cursor.take("}")
    return tuple(names)


def _formula(cursor):
    formula = _and_formula(cursor)
    while cursor.passes("or"):
        formula = ("or", formula, _and_formula(cursor))
    return formula


def _and_formula(cursor):
    formula = _not_formula(cursor)
    while cursor.passes("and"):
        formula = ("and", formula, _not_formula(cursor))
    return formula


def _not_formula(cursor):
    many = 0
    while cursor.passes("not"):
        many += 1
    formula = _bottom(cursor)
    for _ in range(many):
        formula = ("not", formula)
    return formula


def _bottom(cursor):
    if cursor.passes("("):
        formula = _formula(cursor)
        cursor.take(")")
        return formula
    if cursor.passes("has"):
        return "has", _path(cursor)
    path = _path(cursor)
    if cursor.passes("="):
        return "is", path, _value(cursor)
    if cursor.passes("<="):
        return _bound(cursor, path)
    if cursor.passes("same"):
        return "same", path, _path(cursor)
    if cursor.passes("tag"):
        return "tag", path, cursor.take_name()
    cursor.take("long")
    return "long", path, cursor.take_int()


def _bound(cursor, path):
    if cursor.sees_name():
        other = _path(cursor)
        cursor.take("+")
        return "upto", path, other, cursor.take_int()
    return "most", path, cursor.take_int()


def _path(cursor):
    names = [cursor.take_name()]
    while cursor.passes("."):
        names.append(cursor.take_name())
    return ".".join(names)


def _step(cursor):
    lefts = _side(cursor)
    cursor.take("to")
    rights = _side(cursor)
    cursor.take("by")
    way = _way(cursor)
    cursor.take(";")
    return lefts, rights, way


def _side(cursor):
    if cursor.passes("none"):
        return ()
    paths = [_path(cursor)]
    while cursor.passes(","):
        paths.append(_path(cursor))
    return tuple(paths)


def _way(cursor):
    fronts = []
    while cursor.seen() in ("some", "must", "opt", "each"):
        fronts.append(_way_front(cursor))
    way = _way_behind(cursor)
    for word, more in reversed(fronts):
        way = (word, way, *more)
    return way


def _way_front(cursor):
    """A word in front of a way, and what stands behind the way in its tuple."""
    for word in ("opt", "each"):
        if cursor.passes(word):
            return word, ()
    if cursor.passes("some"):
        return "some", (_value(cursor),)
    cursor.take("must")
    return "must", (_value(cursor),)


def _way_behind(cursor):
    for word in ("same", "rank", "clip"):
        if cursor.passes(word):
            return (word,)
    for word in ("table", "apart"):
        if cursor.passes(word):
            first = _value(cursor)
            return word, first, _value(cursor)
    if cursor.passes("arms"):
        return "arms", _trios(cursor, _tag)
    cursor.take("parts")
    return "parts", _trios(cursor, _place)


def _trios(cursor, end):
    """The trios of arms or parts; end reads what stands on each side."""
    cursor.take("{")
    trios = []
    while cursor.seen() != "}":
        first = end(cursor)
        cursor.take("to")
        second = end(cursor)
        cursor.take("by")
        trios.append((first, second, _way(cursor)))
        cursor.take(";")
    cursor.take("}")
    return tuple(trios)


def _tag(cursor):
    return cursor.take_name()


def _place(cursor):
    return None if cursor.passes("none") else cursor.take_int()


def _value(cursor):
    if cursor.sees_name():
        return cursor.take_name()
    if not cursor.passes("["):
        return cursor.take_int()
    values = []
    if cursor.seen() != "]":
        values.append(_value(cursor))
        while cursor.passes(","):
            values.append(_value(cursor))
    cursor.take("]")
    return tuple(values)
