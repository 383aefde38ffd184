"""Formulas as trees of codes."""

from telltrove.formulas import holds, paths_of
from telltrove.showing import values_shown
from telltrove.trees import is_tree, strands_in, truths_of


def rewrite(tables, epoch, version, formula):
    """A tree of codes that is true where a formula of a living version is."""
    word = formula[0]
    if word == "not":
        return word, rewrite(tables, epoch, version, formula[1])
    if word == "and" or word == "or":
        return word, rewrite(tables, epoch, version, formula[1]), rewrite(tables, epoch, version, formula[2])
    return _rewritten_bottom(tables, epoch, version, formula)


def true_of(tree, codes):
    """Tells whether a tree is true of the codes of a paper."""
    return truths_of(tree, [codes])[0]


def judge_rewrite(tables, epoch, version, formula, tree):
    """Tells whether a thing is a tree of codes that is true exactly where a formula is."""
    many = tables.many(epoch)
    if not is_tree(tree, many):
        return False
    leaves = _leaves_shown(tables, epoch, version, formula)
    combinations = _combinations_of(many, _numbers_of(leaves) + strands_in(tree))
    return truths_of(tree, combinations) == _formula_truths(formula, leaves, combinations)


def _rewritten_bottom(tables, epoch, version, formula):
    """The tree of a formula without formulas in it."""
    many = tables.many(epoch)
    leaves = _leaves_shown(tables, epoch, version, formula)
    combinations = _combinations_of(many, _numbers_of(leaves))
    truths = _formula_truths(formula, leaves, combinations)
    hits = [combination for combination, truth in zip(combinations, truths) if truth]
    # The strand with more codes comes last, so that the tree has few trees in it.
    sizes = sorted([(many[number], number) for number in combinations[0]])
    last = sizes[-1][1]
    if len(sizes) == 1:
        return "codes", last, tuple([hit[last] for hit in hits])
    first = sizes[0][1]
    tree = ("no",)
    for code in range(many[first]):
        lasts = tuple([hit[last] for hit in hits if hit[first] == code])
        tree = ("or", tree, ("and", ("codes", first, (code,)), ("codes", last, lasts)))
    return tree


def _leaves_shown(tables, epoch, version, formula):
    """For each path of a formula the number of its strand, and the values that its codes show."""
    return {path: values_shown(tables, epoch, version, path) for path in paths_of(formula)}


def _numbers_of(leaves):
    return [number for number, _ in leaves.values()]


def _combinations_of(many, numbers):
    """All combinations of codes of strands with these numbers: dicts with the codes by the numbers."""
    combinations = [{}]
    for number in sorted(set(numbers)):
        combinations = [{**codes, number: code} for codes in combinations for code in range(many[number])]
    return combinations


def _formula_truths(formula, leaves, combinations):
    """For each combination whether a formula is true of the leaves as its codes show them."""
    paths = list(leaves)
    truths = []
    for codes in combinations:
        truths.append(holds(formula, paths, [values[codes[number]] for number, values in leaves.values()]))
    return truths
