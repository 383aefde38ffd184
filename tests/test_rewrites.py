"""Formulas as trees of codes: promise [54]."""

import itertools
import unittest

from kept import HIDING, LINE, PAIR, RULED, WORDS, some_formula, some_rng, store_houses, tables_of, words_in
from small import house_of, strands_by_links

from telltrove.forms import flat_of, leaves_of
from telltrove.formulas import holds, paths_of
from telltrove.rewrites import judge_rewrite, rewrite, true_of

TREE_WORDS = {"yes": 0, "no": 0, "codes": 0, "not": 1, "and": 2, "or": 2}


def trees_in(tree):
    """How many trees are in a tree, itself too, and how deep it is."""
    many, deepest = 0, 0
    waiting = [(tree, 1)]
    while waiting:
        node, depth = waiting.pop()
        many, deepest = many + 1, max(deepest, depth)
        waiting += [(inner, depth + 1) for inner in node[1:1 + TREE_WORDS[node[0]]]]
    return many, deepest


def formula_true(tables, epoch, version, formula, codes):
    """Whether a formula is true of the whole that codes show."""
    form = tables.house.forms[version]
    paths = [path for path, _ in leaves_of(form)]
    return holds(formula, paths, flat_of(form, tables.whole(epoch, codes, version)))


def strands_about(house, epoch, version, formula):
    """The numbers of the strands that a formula mentions."""
    strands = strands_by_links(house, epoch)
    return [number for number, strand in enumerate(strands) if set(paths_of(formula)) & set(strand[version])]


def all_codes(tables, epoch, most=1500):
    codes = itertools.product(*[range(many) for many in tables.many(epoch)])
    return list(itertools.islice(codes, most + 1))


def some_cases(rng, houses, many):
    """Cases of tables, epoch, version and formula, with at most 8 formulas without formulas inside and few codes."""
    for house in houses:
        tables = tables_of(house)
        for epoch in range(len(house.events)):
            for _ in range(many):
                version = rng.choice(house.living(epoch))
                leaves = leaves_of(house.forms[version])
                if not leaves:
                    continue
                formula = some_formula(rng, leaves, rng.randint(1, 5))
                bottoms = [word for word in words_in(formula) if word not in ("not", "and", "or")]
                if len(bottoms) <= 8 and product_of(tables, epoch, strands_about(house, epoch, version, formula)) <= 400:
                    yield tables, epoch, version, formula


def product_of(tables, epoch, numbers):
    size = 1
    for number in set(numbers):
        size *= tables.many(epoch)[number]
    return size


class Rewritten(unittest.TestCase):

    def test_compared_with_the_formula_on_all_papers(self):
        words, sizes = set(), set()
        for tables, epoch, version, formula in some_cases(some_rng("rewrites"), store_houses() + [WORDS] * 4, 4):
            tree = rewrite(tables, epoch, version, formula)
            many, deep = trees_in(tree)
            self.assertTrue(many <= 2000 and deep <= 200)
            for codes in all_codes(tables, epoch)[:1500]:
                told = true_of(tree, codes)
                self.assertIsInstance(told, bool)
                self.assertIs(told, formula_true(tables, epoch, version, formula, codes), (formula, codes))
            self.assertIs(judge_rewrite(tables, epoch, version, formula, tree), True)
            words.update(words_in(formula))
            sizes.add(len(strands_about(tables.house, epoch, version, formula)))
        self.assertEqual(len(words), 10)
        self.assertGreaterEqual(sizes, {1, 2, 3})

    def test_each_word(self):
        tables = tables_of(WORDS)
        for formula in (("is", "t", ("x", 1)), ("most", "n", 1), ("upto", "n", "p", 0), ("upto", "p", "n", -1), ("same", "n", "n"), ("has", "o"),
                        ("tag", "t", "y"), ("long", "r", 1), ("not", ("has", "o")), ("and", ("has", "o"), ("long", "r", 2)),
                        ("or", ("has", "o"), ("most", "p", 0)), ("most", "n", -1), ("most", "n", 3000), ("long", "r", -1), ("long", "r", 5)):
            for epoch in (0, 1):
                tree = rewrite(tables, epoch, 0, formula)
                self.assertTrue(judge_rewrite(tables, epoch, 0, formula, tree))
                for codes in all_codes(tables, epoch, 500):
                    self.assertIs(true_of(tree, codes), formula_true(tables, epoch, 0, formula, codes))

    def test_large_formulas(self):
        """Eight formulas over two strands, whose numbers of codes have a product of 400."""
        house = house_of("open a { n : num 0 .. 19 ; m : num 0 .. 19 ; o : num 0 .. 1 ; }")
        tables = tables_of(house)
        bottoms = [("upto", "n", "m", at) for at in range(-3, 4)] + [("same", "n", "m")]
        pairs = [("and", ("not", one), ("not", two)) for one, two in zip(bottoms[::2], bottoms[1::2])]
        formula = ("not", ("or", ("and", ("not", pairs[0]), pairs[1]), ("and", ("not", pairs[2]), ("not", pairs[3]))))
        tree = rewrite(tables, 0, 0, formula)
        many, deep = trees_in(tree)
        self.assertTrue(many <= 2000 and deep <= 200)
        self.assertTrue(judge_rewrite(tables, 0, 0, formula, tree))
        self.assertFalse(judge_rewrite(tables, 0, 0, formula, ("not", tree)))
        for codes in all_codes(tables, 0, 800)[:800]:
            self.assertIs(true_of(tree, codes), formula_true(tables, 0, 0, formula, codes))

    def test_strands_of_unlike_sizes(self):
        house = house_of("open a { n : num 0 .. 59 ; m : num 0 .. 5 ; }")
        tables = tables_of(house)
        for formula in (("upto", "n", "m", 2), ("upto", "m", "n", -3), ("not", ("upto", "m", "n", 0))):
            tree = rewrite(tables, 0, 0, formula)
            many, deep = trees_in(tree)
            self.assertTrue(many <= 250 and deep <= 200)
            self.assertTrue(judge_rewrite(tables, 0, 0, formula, tree))
            for codes in all_codes(tables, 0):
                self.assertIs(true_of(tree, codes), formula_true(tables, 0, 0, formula, codes))


class TrueOf(unittest.TestCase):

    def test_each_word(self):
        for tree, codes, own in (
                (("yes",), (), True), (("no",), (), False), (("codes", 0, (1, 3)), (3,), True), (("codes", 0, (1, 3)), (2,), False),
                (("codes", 0, ()), (0,), False), (("codes", 1, (0,)), (1, 0, 1), True), (("codes", 2, (0,)), (1, 0, 1), False),
                (("not", ("yes",)), (1,), False), (("not", ("no",)), (1,), True)):
            self.assertIs(true_of(tree, codes), own)
        words = {True: ("codes", 0, (7,)), False: ("codes", 1, (7,))}
        for one, two in itertools.product((True, False), repeat=2):
            self.assertIs(true_of(("and", words[one], words[two]), (7, 6)), one and two)
            self.assertIs(true_of(("or", words[one], words[two]), (7, 6)), one or two)

    def test_the_order_of_the_trees_inside(self):
        a, b, c = [("codes", number, (1,)) for number in range(3)]
        for codes in itertools.product((0, 1), repeat=3):
            x, y, z = [code == 1 for code in codes]
            self.assertIs(true_of(("or", ("and", a, ("not", b)), c), codes), (x and not y) or z)
            self.assertIs(true_of(("or", c, ("and", a, ("not", b))), codes), (x and not y) or z)
            self.assertIs(true_of(("and", ("or", ("not", a), c), ("not", ("and", b, c))), codes), (not x or z) and not (y and z))

    def test_deep(self):
        tree, other, third = ("codes", 0, (1,)), ("codes", 0, (1,)), ("codes", 0, (1,))
        for _ in range(199):
            tree, other, third = ("not", tree), ("and", ("yes",), other), ("or", third, ("no",))
        for code in (0, 1):
            self.assertIs(true_of(tree, (code,)), code == 0)
            self.assertIs(true_of(other, (code,)), code == 1)
            self.assertIs(true_of(third, (code,)), code == 1)


class Judged(unittest.TestCase):

    def test_other_trees_that_are_true_where_the_formula_is(self):
        taken = 0
        rng = some_rng("judged")
        for tables, epoch, version, formula in some_cases(rng, store_houses() + [WORDS], 2):
            strands = tables.many(epoch)
            numbers = strands_about(tables.house, epoch, version, formula)
            by_hits = ("no",)
            for codes in itertools.product(*[range(strands[number]) for number in numbers]):
                full = [0] * len(strands)
                for number, code in zip(numbers, codes):
                    full[number] = code
                if formula_true(tables, epoch, version, formula, tuple(full)):
                    term = ("yes",)
                    for number, code in zip(numbers, codes):
                        term = ("and", term, ("codes", number, (code,)))
                    by_hits = ("or", by_hits, term)
            tree = rewrite(tables, epoch, version, formula)
            number = rng.randrange(len(strands))
            others = [by_hits, ("not", ("not", tree)), ("and", tree, by_hits), ("or", ("no",), tree), ("and", tree, ("yes",))]
            if product_of(tables, epoch, numbers + [number]) <= 400:
                every = tuple(range(strands[number]))
                others += [("and", tree, ("codes", number, every)), ("or", ("codes", number, ()), tree),
                           ("or", ("and", tree, ("codes", number, every[:1])), ("and", ("codes", number, every[1:]), tree))]
            for other in others:
                self.assertTrue(judge_rewrite(tables, epoch, version, formula, other))
                self.assertFalse(judge_rewrite(tables, epoch, version, formula, ("not", other)))
                self.assertFalse(judge_rewrite(tables, epoch, version, ("not", formula), other))
                taken += 1
        self.assertGreater(taken, 500)

    def test_a_wrong_truth(self):
        """Trees that are otherwise for just one code, also of a strand that the formula does not mention."""
        tables = tables_of(PAIR)
        formula = ("has", "o")
        self.assertEqual(tables.many(0), (3, 3, 2))
        self.assertTrue(judge_rewrite(tables, 0, 0, formula, ("codes", 1, (1, 2))))
        for tree in (("codes", 1, (1,)), ("codes", 1, (2,)), ("codes", 1, (0, 1, 2)), ("codes", 1, ()), ("codes", 0, (1, 2)), ("yes",), ("no",),
                     ("and", ("codes", 1, (1, 2)), ("codes", 0, (0, 1))), ("or", ("codes", 1, (1, 2)), ("codes", 2, (1,)))):
            self.assertIs(judge_rewrite(tables, 0, 0, formula, tree), False)
        self.assertTrue(judge_rewrite(tables, 0, 0, formula, ("and", ("codes", 1, (1, 2)), ("codes", 0, (0, 1, 2)))))
        # The other way round: the formula mentions a strand, the tree none, or another one.
        self.assertTrue(judge_rewrite(tables, 0, 0, ("same", "n", "n"), ("yes",)))
        self.assertTrue(judge_rewrite(tables, 0, 0, ("same", "n", "n"), ("or", ("codes", 2, (0,)), ("codes", 2, (1,)))))
        self.assertFalse(judge_rewrite(tables, 0, 0, ("most", "n", 1), ("or", ("codes", 2, (0,)), ("codes", 2, (1,)))))

    def wrongs(self, tables, epoch):
        """Things that are no trees of codes of an epoch."""
        many = tables.many(epoch)
        wrong = [("codes", len(many), (0,)), ("codes", -1, (0,)), ("codes", 1000000, ()), ("codes", -1000000, ())]
        for number, own in enumerate(many):
            wrong += [("codes", number, (own,)), ("codes", number, (-1, 0)), ("codes", number, (0, 1000000)), ("codes", number, (-1000000,)),
                      ("codes", number, (0, 0)), ("codes", number, (own - 1, own))]
            if own > 1:
                wrong += [("codes", number, (1, 0)), ("codes", number, (0, 1, 1)), ("codes", number, (own - 1, 0))]
        return wrong + [(), ("maybe",), ("", ("yes",)), ("Yes",), ("xor", ("yes",), ("no",)), ("code", 0, (0,)), ("is", "n", 1), ("true", 1, 2, 3, 4),
                        ("yes ",), ("nots", ("yes",))]

    def test_things_that_are_no_trees(self):
        for house in (LINE, HIDING, PAIR, RULED, WORDS):
            tables = tables_of(house)
            for epoch in (0, len(house.events) - 1):
                version = house.living(epoch)[0]
                path = leaves_of(house.forms[version])[0][0]
                formula = ("same", path, path)
                self.assertTrue(judge_rewrite(tables, epoch, version, formula, ("yes",)))
                for thing in self.wrongs(tables, epoch):
                    # Also where it could not change the truth.
                    for tree in (thing, ("or", ("yes",), thing), ("or", thing, ("yes",)), ("not", ("and", ("no",), thing)),
                                 ("or", ("yes",), ("and", ("no",), ("not", thing)))):
                        self.assertIs(judge_rewrite(tables, epoch, version, formula, tree), False, tree)

    def test_deep_trees(self):
        tables = tables_of(LINE)
        tree, other, wrong = ("codes", 0, (1,)), ("codes", 0, (1,)), ("codes", 0, (3,))
        for _ in range(99):
            tree, other, wrong = ("not", ("not", tree)), ("and", ("yes",), ("or", other, ("no",))), ("and", ("no",), ("not", wrong))
        for formula, own in ((("is", "n", 1), True), (("is", "n", 0), False)):
            self.assertIs(judge_rewrite(tables, 0, 0, formula, tree), own)
            self.assertIs(judge_rewrite(tables, 0, 0, formula, other), own)
            self.assertIs(judge_rewrite(tables, 0, 0, formula, ("not", tree)), False)
        self.assertIs(judge_rewrite(tables, 0, 0, ("most", "n", -1), wrong), False)

    def test_codes_of_the_epoch(self):
        tables = tables_of(LINE)
        self.assertEqual([tables.many(epoch) for epoch in range(4)], [(3,), (3,), (5,), (3,)])
        formula = ("is", "n", 2)
        self.assertTrue(judge_rewrite(tables, 2, 0, formula, ("codes", 0, (3, 4))))
        self.assertFalse(judge_rewrite(tables, 3, 0, formula, ("codes", 0, (3, 4))))
        self.assertTrue(judge_rewrite(tables, 3, 0, formula, ("codes", 0, (2,))))
        self.assertFalse(judge_rewrite(tables, 2, 0, formula, ("codes", 0, (2,))))


if __name__ == "__main__":
    unittest.main()
