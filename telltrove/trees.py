"""Trees of codes: which are right, and of which codes they are true.

Trees can be deep, so nothing here goes down in them by calls.
"""

from telltrove.checks import ascend, is_int

MANY_INNER = {"yes": 0, "no": 0, "codes": 0, "not": 1, "and": 2, "or": 2}


def inner_trees(tree):
    """The trees directly in a tree."""
    return tree[1:1 + MANY_INNER[tree[0]]]


def is_tree(tree, many):
    """Tells whether a thing is a tree of codes, for strands with so many codes each."""
    waiting = [tree]
    while waiting:
        node = waiting.pop()
        if not _is_right_top(node, many):
            return False
        waiting.extend(inner_trees(node))
    return True


def _is_right_top(node, many):
    """Tells whether a thing could be a tree, by all but the trees in it."""
    if not isinstance(node, tuple) or len(node) == 0 or node[0] not in MANY_INNER:
        return False
    if node[0] != "codes":
        return True
    _, number, codes = node
    if not is_int(number, 0, len(many) - 1) or not isinstance(codes, tuple):
        return False
    return all([is_int(code, 0, many[number] - 1) for code in codes]) and ascend(codes)


def nodes_of(tree):
    """All trees in a tree, each of them ahead of those in it, as often as they stand."""
    nodes = []
    waiting = [tree]
    while waiting:
        node = waiting.pop()
        nodes.append(node)
        waiting.extend(inner_trees(node))
    return nodes


def strands_in(tree):
    """The numbers of the strands that a tree mentions, as often as they stand."""
    return [node[1] for node in nodes_of(tree) if node[0] == "codes"]


def truths_of(tree, combinations):
    """For each of some combinations, which have codes by the numbers of strands, whether a tree is true of it."""
    truths = []
    for node in nodes_of(tree)[::-1]:
        inner = [truths.pop() for _ in inner_trees(node)]
        truths.append(_truths_at(node, inner, combinations))
    return truths[0]


def _truths_at(node, inner, combinations):
    """What a tree is of each of the combinations, if inner has this for each of the trees in it."""
    word = node[0]
    if word == "codes":
        codes = set(node[2])
        return [combination[node[1]] in codes for combination in combinations]
    if word == "not":
        return [not truth for truth in inner[0]]
    if word == "and":
        return [one and other for one, other in zip(inner[0], inner[1])]
    if word == "or":
        return [one or other for one, other in zip(inner[0], inner[1])]
    return [word == "yes"] * len(combinations)
