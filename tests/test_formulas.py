"""Formulas: promises [2] and [7]."""

import unittest

from telltrove.formulas import holds, is_formula, paths_of

LEAVES = (
    ("n", ("num", 0, 5)),
    ("home.m", ("num", -3, 3)),
    ("s", ("pick", ("no", "yes"))),
    ("o", ("opt", ("num", 0, 1))),
    ("o2", ("opt", ("num", 0, 1))),
    ("r", ("row", ("num", 0, 1), 3)),
    ("u", ("one", (("a", ("num", 0, 1)), ("b", ("pick", ("a", "c")))))),
    ("k", ("num", 0, 5)),
    ("w", ("opt", ("row", ("opt", ("num", 0, 1)), 1))),
)
PATHS = tuple(path for path, _ in LEAVES)
PART = (2, -1, "yes", (), (1,), (0, 1), ("a", 1), 2, (((1,),),))
TRUE = ("is", "n", 2)
FALSE = ("is", "n", 3)


def nots(many, formula):
    for _ in range(many):
        formula = ("not", formula)
    return formula


class RightFormulas(unittest.TestCase):

    def right(self, *formulas):
        for formula in formulas:
            for told in (formula, ("not", formula), ("and", TRUE, formula), ("or", formula, TRUE)):
                with self.subTest(formula=told):
                    self.assertIs(is_formula(LEAVES, told), True)

    def wrong(self, *formulas):
        for formula in formulas:
            for told in (formula, ("not", formula), ("and", TRUE, formula), ("and", formula, TRUE),
                         ("or", TRUE, formula), ("or", formula, TRUE)):
                with self.subTest(formula=told):
                    self.assertIs(is_formula(LEAVES, told), False)

    def test_is(self):
        self.right(("is", "n", 0), ("is", "n", 5), ("is", "home.m", -3), ("is", "s", "no"), ("is", "o", ()),
                   ("is", "o", (1,)), ("is", "r", (0, 1, 1)), ("is", "u", ("b", "c")), ("is", "w", (((0,),),)))
        self.wrong(("is", "n", 6), ("is", "n", -1), ("is", "n", True), ("is", "n", False), ("is", "n", "no"),
                   ("is", "n", None), ("is", "n", ()), ("is", "s", "n"), ("is", "s", 0), ("is", "o", 0),
                   ("is", "o", (True,)), ("is", "o", None), ("is", "r", (0, 1, 1, 1)), ("is", "r", (0, True)),
                   ("is", "u", ("b", 0)), ("is", "u", "b"), ("is", "u", ("a", True)), ("is", "w", (((True,),),)))

    def test_paths(self):
        for path in ("", "x", "home", "m", "home.", ".m", "home.m.m", "N", "num", "n ", "home m"):
            self.wrong(("is", path, 0), ("most", path, 0), ("has", path), ("tag", path, "a"), ("long", path, 0),
                       ("same", path, path), ("same", "n", path), ("same", path, "n"), ("upto", path, path, 0),
                       ("upto", "n", path, 0), ("upto", path, "n", 0))

    def test_most(self):
        self.right(("most", "n", -3000), ("most", "n", 3000), ("most", "home.m", 0), ("most", "n", 17))
        self.wrong(("most", "n", -3001), ("most", "n", 3001), ("most", "n", 1000000), ("most", "n", -1000000),
                   ("most", "s", 0), ("most", "o", 0), ("most", "r", 0), ("most", "u", 0))

    def test_upto(self):
        self.right(("upto", "n", "home.m", -3000), ("upto", "n", "home.m", 3000), ("upto", "n", "n", 0))
        self.wrong(("upto", "n", "home.m", -3001), ("upto", "n", "home.m", 3001), ("upto", "n", "s", 0),
                   ("upto", "s", "n", 0), ("upto", "o", "o", 0), ("upto", "n", "r", 0), ("upto", "s", "s", 0))

    def test_same(self):
        self.right(("same", "n", "k"), ("same", "n", "n"), ("same", "o", "o2"), ("same", "s", "s"), ("same", "u", "u"))
        self.wrong(("same", "n", "home.m"), ("same", "n", "s"), ("same", "o", "n"), ("same", "o", "r"), ("same", "o", "w"))

    def test_has_tag_long(self):
        self.right(("has", "o"), ("has", "w"), ("tag", "u", "a"), ("tag", "u", "b"), ("long", "r", -3000),
                   ("long", "r", 3000), ("long", "r", 0), ("long", "r", 4))
        self.wrong(("has", "n"), ("has", "s"), ("has", "r"), ("has", "u"), ("tag", "u", "c"), ("tag", "u", ""),
                   ("tag", "s", "no"), ("tag", "o", "a"), ("tag", "n", "a"), ("tag", "r", "a"), ("long", "r", 3001),
                   ("long", "r", -3001), ("long", "o", 0), ("long", "n", 0), ("long", "s", 0), ("long", "u", 0))

    def test_words(self):
        self.wrong(("maybe", "n"), ("", "n", 0), ("xor", TRUE, TRUE), ("nots", TRUE), ("num", 0, 1), ("equal", "n", "k"),
                   ("Is", "n", 2), ("least", "n", 2), ("true",), ("form", (), ()), ("n", "is", 2, 3, 4, 5))

    def test_depth(self):
        for bottom in (TRUE, ("has", "o"), ("upto", "n", "n", 0)):
            for many in range(6):
                self.assertIs(is_formula(LEAVES, nots(many, bottom)), True)
            for many in (6, 7, 12, 50):
                self.assertIs(is_formula(LEAVES, nots(many, bottom)), False)
        for word in ("and", "or"):
            five, six = nots(4, TRUE), nots(5, TRUE)
            for formula in ((word, five, TRUE), (word, TRUE, five), (word, five, five)):
                self.assertIs(is_formula(LEAVES, formula), True)
            for formula in ((word, six, TRUE), (word, TRUE, six), (word, six, six)):
                self.assertIs(is_formula(LEAVES, formula), False)
            chain = TRUE
            for _ in range(5):
                chain = (word, chain, FALSE)
            self.assertIs(is_formula(LEAVES, chain), True)
            self.assertIs(is_formula(LEAVES, (word, chain, FALSE)), False)
            self.assertIs(is_formula(LEAVES, (word, FALSE, chain)), False)

    def test_no_leaves(self):
        self.assertIs(is_formula((), ("is", "n", 0)), False)
        self.assertIs(is_formula((("a:n", ("num", 0, 1)),), ("is", "a:n", 0)), True)


class Paths(unittest.TestCase):

    def test_paths(self):
        told = (
            (("is", "s", "yes"), ("s",)), (("most", "n", 1), ("n",)), (("has", "o"), ("o",)), (("long", "r", 1), ("r",)),
            (("tag", "u", "a"), ("u",)), (("upto", "n", "home.m", 1), ("home.m", "n")), (("same", "o2", "o"), ("o", "o2")),
            (("upto", "n", "n", 1), ("n",)), (("not", ("same", "n", "k")), ("k", "n")),
            (("and", ("has", "w"), ("or", ("is", "s", "no"), ("not", ("upto", "n", "k", 0)))), ("k", "n", "s", "w")),
            (("or", ("has", "o"), ("has", "o")), ("o",)), (("and", ("has", "z"), ("has", "a")), ("a", "z")),
            (("or", ("and", ("has", "b"), ("has", "c")), ("has", "a")), ("a", "b", "c")),
            (("is", "s", "n"), ("s",)), (("tag", "u", "s"), ("u",)),
        )
        for formula, paths in told:
            self.assertEqual(paths_of(formula), paths)


class Truth(unittest.TestCase):

    def judge(self, right, wrong):
        for formula in right:
            self.assertIs(holds(formula, PATHS, PART), True, formula)
            self.assertIs(holds(("not", formula), PATHS, PART), False, formula)
        for formula in wrong:
            self.assertIs(holds(formula, PATHS, PART), False, formula)
            self.assertIs(holds(("not", formula), PATHS, PART), True, formula)

    def test_bottoms(self):
        self.judge((("is", "n", 2), ("is", "o", ()), ("is", "r", (0, 1)), ("is", "u", ("a", 1)), ("is", "s", "yes")),
                   (("is", "n", 1), ("is", "o", (0,)), ("is", "r", (0,)), ("is", "u", ("a", 0)), ("is", "s", "no")))
        self.judge((("most", "n", 2), ("most", "n", 3), ("most", "home.m", -1), ("most", "n", 3000)),
                   (("most", "n", 1), ("most", "home.m", -2), ("most", "n", -3000)))
        self.judge((("upto", "n", "home.m", 3), ("upto", "n", "home.m", 4), ("upto", "home.m", "n", -3),
                    ("upto", "n", "n", 0), ("upto", "home.m", "n", 0)),
                   (("upto", "n", "home.m", 2), ("upto", "n", "home.m", 0), ("upto", "home.m", "n", -4),
                    ("upto", "n", "n", -1)))
        self.judge((("same", "n", "k"), ("same", "n", "n"), ("same", "o", "o")), (("same", "o", "o2"), ("same", "o2", "o")))
        self.judge((("has", "o2"), ("has", "w")), (("has", "o"),))
        self.judge((("tag", "u", "a"),), (("tag", "u", "b"),))
        self.judge((("long", "r", 2), ("long", "r", 1), ("long", "r", 0), ("long", "r", -3000)),
                   (("long", "r", 3), ("long", "r", 3000)))

    def test_has_of_an_empty_value_inside(self):
        paths = ("w",)
        self.assertIs(holds(("has", "w"), paths, (((),),)), True)
        self.assertIs(holds(("has", "w"), paths, ((),)), False)

    def test_joined(self):
        for one, is_one in ((TRUE, True), (FALSE, False)):
            for two, is_two in ((("has", "o2"), True), (("has", "o"), False)):
                self.assertIs(holds(("and", one, two), PATHS, PART), is_one and is_two)
                self.assertIs(holds(("or", one, two), PATHS, PART), is_one or is_two)
                self.assertIs(holds(("not", ("and", one, ("not", two))), PATHS, PART), not (is_one and not is_two))
        self.assertIs(holds(nots(5, TRUE), PATHS, PART), False)
        self.assertIs(holds(nots(4, TRUE), PATHS, PART), True)

    def test_paths_in_any_order(self):
        self.assertIs(holds(("upto", "a", "b", 0), ("b", "a"), (5, 1)), True)
        self.assertIs(holds(("upto", "a", "b", 0), ("a", "b"), (5, 1)), False)
        self.assertIs(holds(("upto", "b", "a", 0), ("c", "b", "a"), (0, 5, 1)), False)


if __name__ == "__main__":
    unittest.main()
