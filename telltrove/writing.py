"""Events and their parts are written as house texts.

The functions with names in _tokens tell lists of tokens; the blanks between them come last.
"""

# The word that binds the least has the lowest number; formulas with other words bind more than both.
BINDING = {"or": 0, "and": 1}
CLOSE = 2


def write_house(events):
    """The text of events."""
    pieces = []
    for event in events:
        for token in _event_tokens(event):
            pieces.append(token)
            pieces.append("\n" if token in ("{", "}", ";") else " ")
    return "".join(pieces)


def write_kind(kind):
    """The text of a kind, on one line."""
    return " ".join(_kind_tokens(kind))


def write_formula(formula):
    """The text of a formula, on one line."""
    return " ".join(_formula_tokens(formula, 0))


def write_way(way):
    """The text of a way, on one line."""
    return " ".join(_way_tokens(way))


def write_value(value):
    """The text of a value, on one line."""
    return " ".join(_value_tokens(value))


def _event_tokens(event):
    word = event[0]
    if word == "retire":
        return ["retire", event[1], ";"]
    if word == "open":
        return ["open", event[1], "{", *_form_tokens(event[2]), "}"]
    steps = []
    for step in event[4]:
        steps.extend(_step_tokens(step))
    return ["add", event[1], "from", event[2], "{", *_form_tokens(event[3]), *steps, "}"]


def _form_tokens(form):
    tokens = _fields_tokens(form[1])
    for rule in form[2]:
        tokens.extend(["rule", *_formula_tokens(rule, 0), ";"])
    return tokens


def _fields_tokens(pairs):
    tokens = []
    for name, kind in pairs:
        tokens.extend([name, ":", *_kind_tokens(kind), ";"])
    return tokens


def _kind_tokens(kind):
    word = kind[0]
    if word == "num":
        return ["num", str(kind[1]), "..", str(kind[2])]
    if word == "pick":
        return ["pick", "{", *_listed([[name] for name in kind[1]]), "}"]
    if word == "opt":
        return ["opt", *_kind_tokens(kind[1])]
    if word == "row":
        return ["row", str(kind[2]), "of", *_kind_tokens(kind[1])]
    return [word, "{", *_fields_tokens(kind[1]), "}"]


def _listed(items):
    """The tokens of items, each a list of tokens, with commas between them."""
    tokens = []
    for at, item in enumerate(items):
        if at > 0:
            tokens.append(",")
        tokens.extend(item)
    return tokens


def _formula_tokens(formula, least):
    """The tokens of a formula, in parentheses if it binds less than the place where it stands asks for."""
    word = formula[0]
    binding = BINDING.get(word, CLOSE)
    if binding < least:
        return ["(", *_formula_tokens(formula, 0), ")"]
    if word == "not":
        return ["not", *_formula_tokens(formula[1], binding)]
    if word == "or" or word == "and":
        # Both associate to the left: only the right side asks for more than the word itself has.
        return [*_formula_tokens(formula[1], binding), word, *_formula_tokens(formula[2], binding + 1)]
    return _bottom_tokens(formula)


def _bottom_tokens(formula):
    word = formula[0]
    path = _path_tokens(formula[1])
    if word == "has":
        return ["has", *path]
    if word == "is":
        return [*path, "=", *_value_tokens(formula[2])]
    if word == "most":
        return [*path, "<=", str(formula[2])]
    if word == "upto":
        return [*path, "<=", *_path_tokens(formula[2]), "+", str(formula[3])]
    if word == "same":
        return [*path, "same", *_path_tokens(formula[2])]
    return [*path, word, str(formula[2])]


def _path_tokens(path):
    tokens = []
    for at, name in enumerate(path.split(".")):
        if at > 0:
            tokens.append(".")
        tokens.append(name)
    return tokens


def _step_tokens(step):
    lefts, rights, way = step
    return ["step", *_side_tokens(lefts), "to", *_side_tokens(rights), "by", *_way_tokens(way), ";"]


def _side_tokens(paths):
    if not paths:
        return ["none"]
    return _listed([_path_tokens(path) for path in paths])


def _way_tokens(way):
    word = way[0]
    if word in ("table", "apart"):
        return [word, *_value_tokens(way[1]), *_value_tokens(way[2])]
    if word in ("some", "must"):
        return [word, *_value_tokens(way[2]), *_way_tokens(way[1])]
    if word in ("opt", "each"):
        return [word, *_way_tokens(way[1])]
    if word in ("arms", "parts"):
        return [word, "{", *_trios_tokens(way[1]), "}"]
    return [word]


def _trios_tokens(trios):
    tokens = []
    for first, second, way in trios:
        tokens.extend([_end_token(first), "to", _end_token(second), "by", *_way_tokens(way), ";"])
    return tokens


def _end_token(end):
    """The token of a tag or a place."""
    return "none" if end is None else str(end)


def _value_tokens(value):
    if isinstance(value, tuple):
        return ["[", *_listed([_value_tokens(inner) for inner in value]), "]"]
    return [str(value)]
