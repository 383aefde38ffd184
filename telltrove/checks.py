"""Small questions about names and numbers that are judged."""

LETTERS = "abcdefghijklmnopqrstuvwxyz"
DIGITS = "0123456789"
RESERVED = (
    "open", "add", "from", "retire", "rule", "step", "to", "by", "none", "num", "pick", "opt", "row", "of", "one",
    "rec", "same", "rank", "clip", "table", "apart", "some", "must", "each", "arms", "parts", "or", "and", "not",
    "has", "tag", "long",
)


def is_int(thing, low, high):
    """Tells whether a thing is an integer, and no bool, from low to high."""
    return isinstance(thing, int) and not isinstance(thing, bool) and low <= thing <= high


def is_base_name(name):
    """Tells whether a thing is a base name."""
    if not isinstance(name, str) or not 1 <= len(name) <= 8 or name in RESERVED:
        return False
    return name[0] in LETTERS and all(sign in LETTERS or sign in DIGITS for sign in name)


def are_base_names(names, low, high):
    """Tells whether there are from low to high names, each of them a base name."""
    return low <= len(names) <= high and all(is_base_name(name) for name in names)


def ascend(names):
    """Tells whether names stand in ascending order, none of them twice."""
    return all(names[place] < names[place + 1] for place in range(len(names) - 1))


def differ(things):
    """Tells whether nothing stands twice among names, numbers or tuples of them."""
    return len(set(things)) == len(things)
