"""Groups, let parts and unmet formulas: promises [2], [8] and [9]."""

import itertools
import unittest

from telltrove.errors import TooLarge
from telltrove.formulas import holds, paths_of
from telltrove.forms import is_form, leaves_of, whole_of
from telltrove.letting import groups_of, is_let, least_let, let_many, let_parts, unmet

BIT = ("num", 0, 1)
TRIT = ("num", 0, 2)


def form(fields, *rules):
    return ("form", tuple(fields), rules)


def numbers(names, kind=TRIT):
    return [(name, kind) for name in names]


def wholes_of(told):
    """All wholes of a form whose leaves are numbers, ascending."""
    ranges = [range(kind[1], kind[2] + 1) for _, kind in leaves_of(told)]
    return [(whole_of(told, flat), flat) for flat in itertools.product(*ranges)]


def let_wholes(told):
    paths = [path for path, _ in leaves_of(told)]
    return [whole for whole, flat in wholes_of(told) if all(holds(rule, paths, flat) for rule in told[2])]


def size(many):
    return ("num", 1, many)


FORMS = (
    form(numbers("ab")),
    form(numbers("ab"), ("not", ("upto", "a", "b", 0))),
    form(numbers("abc"), ("upto", "c", "a", -1), ("not", ("is", "b", 0))),
    form(numbers("abcde"), ("upto", "e", "a", -1), ("not", ("same", "b", "d")), ("most", "c", 1)),
    form(numbers("abcd"), ("same", "a", "c"), ("same", "c", "d"), ("not", ("most", "a", 0))),
    form(numbers("abc"), ("is", "a", 0), ("is", "a", 1)),
    form(numbers("abc"), ("is", "c", 0), ("is", "c", 1), ("not", ("is", "a", 0))),
    form([("h", ("rec", (("p", TRIT), ("q", TRIT)))), ("e", ("rec", ())), ("r", TRIT)],
         ("upto", "h.q", "r", -1), ("most", "h.p", 1)),
    form(numbers("abc"), ("or", ("and", ("is", "a", 2), ("is", "c", 1)), ("and", ("is", "a", 1), ("is", "c", 2)))),
    form([("e", ("rec", ()))]),
    form(numbers("abcdef", BIT), ("or", ("same", "a", "f"), ("is", "c", 1)), ("not", ("same", "b", "e"))),
)
FORMULAS = (
    ("is", "a", 0), ("most", "a", 1), ("not", ("is", "a", 2)), ("upto", "b", "a", 1), ("same", "a", "b"),
    ("not", ("same", "a", "b")), ("or", ("is", "b", 0), ("not", ("is", "b", 0))), ("and", ("is", "a", 1), ("most", "c", 0)),
    ("upto", "a", "c", 0), ("or", ("same", "a", "c"), ("is", "b", 1)), ("most", "c", 1), ("most", "c", 2), ("most", "c", -1),
    ("not", ("upto", "b", "e", 0)), ("or", ("not", ("is", "e", 0)), ("upto", "d", "a", 0)), ("same", "a", "d"),
    ("most", "h.p", 0), ("most", "h.q", 1), ("not", ("is", "r", 0)), ("upto", "h.p", "r", -1), ("upto", "r", "h.q", 1),
)


class Groups(unittest.TestCase):

    def test_groups(self):
        told = (
            (form(numbers("abc")), (("a",), ("b",), ("c",))),
            (form(numbers("abc"), ("same", "c", "a")), (("a", "c"), ("b",))),
            (form(numbers("abcde"), ("same", "d", "e"), ("same", "b", "a"), ("upto", "e", "b", 0)),
             (("a", "b", "d", "e"), ("c",))),
            (form(numbers("abcde"), ("same", "a", "e"), ("same", "b", "d")), (("a", "e"), ("b", "d"), ("c",))),
            (form(numbers("abcd"), ("same", "c", "d"), ("same", "b", "c"), ("same", "a", "b")), (("a", "b", "c", "d"),)),
            (form(numbers("abcd"), ("same", "a", "b"), ("same", "c", "d"), ("same", "b", "c")), (("a", "b", "c", "d"),)),
            (form(numbers("abcd"), ("or", ("is", "d", 0), ("not", ("is", "b", 0)))), (("a",), ("b", "d"), ("c",))),
            (form(numbers("abcd"), ("and", ("is", "c", 0), ("or", ("is", "a", 1), ("has", "d")))), (("a", "c", "d"), ("b",))),
            (form(numbers("ba"), ("is", "a", 0), ("most", "a", 1), ("same", "b", "b")), (("b",), ("a",))),
            (form([("z", ("rec", (("p", TRIT), ("q", TRIT)))), ("a", TRIT)], ("same", "a", "z.q")),
             (("z.p",), ("z.q", "a"))),
            (form([("e", ("rec", ()))]), ()),
            (form(numbers("abcdef"), ("same", "f", "d"), ("same", "c", "a"), ("same", "e", "b"), ("same", "d", "b")),
             (("a", "c"), ("b", "d", "e", "f"))),
        )
        for each, groups in told:
            with self.subTest(form=each):
                self.assertEqual(groups_of(each), groups)

    def test_any_order_of_the_rules(self):
        ties = (("same", "a", "c"), ("same", "e", "c"), ("upto", "b", "f", 0), ("same", "f", "d"), ("is", "g", 0))
        for rules in itertools.permutations(ties):
            self.assertEqual(groups_of(form(numbers("abcdefg"), *rules)), (("a", "c", "e"), ("b", "d", "f"), ("g",)))


class Letting(unittest.TestCase):

    def test_forms_are_right(self):
        for told in FORMS:
            self.assertIs(is_form(told), True)

    def test_is_let(self):
        for told in FORMS:
            right = let_wholes(told)
            for whole, _ in wholes_of(told):
                self.assertIs(is_let(told, whole), whole in right, (told, whole))

    def test_let_parts_by_hand(self):
        told = form(numbers("abcd"), ("upto", "c", "a", -1), ("not", ("is", "b", 1)))
        self.assertEqual(let_parts(told, ("a", "c")), ((1, 0), (2, 0), (2, 1)))
        self.assertEqual(let_parts(told, ("b",)), ((0,), (2,)))
        self.assertEqual(let_parts(told, ("d",)), ((0,), (1,), (2,)))
        self.assertEqual(let_parts(told, ("a", "b", "c")), ((1, 0, 0), (1, 2, 0), (2, 0, 0), (2, 0, 1), (2, 2, 0), (2, 2, 1)))
        self.assertEqual(let_parts(told, ()), ((),))
        self.assertEqual(let_parts(form(numbers("ab"), ("is", "a", 0), ("is", "a", 1)), ("a",)), ())
        self.assertEqual(let_parts(form(numbers("ab"), ("is", "a", 0), ("is", "a", 1)), ("b",)), ((0,), (1,), (2,)))
        opt = ("opt", ("pick", ("x", "y")))
        self.assertEqual(let_parts(form([("o", opt), ("s", opt)], ("same", "o", "s"), ("has", "o")), ("o", "s")),
                         ((("x",), ("x",)), (("y",), ("y",))))
        self.assertEqual(let_parts(form([("o", opt)]), ("o",)), (((),), (("x",),), (("y",),)))

    def test_let_parts_of_all_unions_of_groups(self):
        for told in FORMS:
            order = [path for path, _ in leaves_of(told)]
            groups = groups_of(told)
            ends = dict(leaves_of(told))
            for many in range(len(groups) + 1):
                for some in itertools.combinations(groups, many):
                    paths = tuple(path for path in order if any(path in group for group in some))
                    rules = [rule for rule in told[2] if set(paths_of(rule)) <= set(paths)]
                    ranges = [range(ends[path][1], ends[path][2] + 1) for path in paths]
                    parts = tuple(part for part in itertools.product(*ranges)
                                  if all(holds(rule, paths, part) for rule in rules))
                    self.assertEqual(let_parts(told, paths), parts, (told, paths))

    def test_least_and_many(self):
        for told in FORMS:
            with self.subTest(form=told):
                right = let_wholes(told)
                self.assertEqual(least_let(told), right[0] if right else None)
                self.assertEqual(let_many(told), len(right))

    def test_by_hand(self):
        self.assertEqual(least_let(form(numbers("pq"), ("not", ("upto", "p", "q", 0)))), (1, 0))
        self.assertEqual(let_many(form(numbers("pq"), ("not", ("upto", "p", "q", 0)))), 3)
        self.assertEqual(least_let(form([("e", ("rec", ()))])), ((),))
        self.assertEqual(let_many(form([("e", ("rec", ()))])), 1)
        none = form(numbers("pq"), ("is", "q", 0), ("is", "q", 2))
        self.assertIsNone(least_let(none))
        self.assertEqual(let_many(none), 0)
        self.assertEqual(let_many(form(numbers("abcdefgh", size(20)))), 20 ** 8)


class Unmet(unittest.TestCase):

    def test_against_all_wholes(self):
        seen = {True: 0, False: 0}
        for told in FORMS:
            paths = [path for path, _ in leaves_of(told)]
            right = [flat for whole, flat in wholes_of(told) if whole in let_wholes(told)]
            for formula in FORMULAS:
                if not set(paths_of(formula)) <= set(paths):
                    continue
                false = [whole_of(told, flat) for flat in right if not holds(formula, paths, flat)]
                seen[bool(false)] += 1
                self.assertEqual(unmet(told, formula), false[0] if false else None, (told, formula))
        self.assertGreater(min(seen.values()), 20)

    def test_by_hand(self):
        told = form(numbers("abc"), ("upto", "a", "c", -1), ("not", ("is", "b", 0)))
        self.assertIsNone(unmet(told, ("most", "a", 1)))
        self.assertEqual(unmet(told, ("most", "a", 0)), (1, 1, 2))
        self.assertEqual(unmet(told, ("same", "a", "b")), (0, 1, 1))
        self.assertEqual(unmet(told, ("not", ("same", "a", "b"))), (1, 1, 2))
        self.assertEqual(unmet(told, ("most", "b", 1)), (0, 2, 1))
        self.assertIsNone(unmet(form(numbers("ab"), ("is", "b", 0), ("is", "b", 1)), ("is", "a", 2)))
        self.assertIsNone(unmet(form(numbers("ab"), ("is", "a", 0), ("is", "a", 1)), ("is", "b", 2)))
        self.assertIsNone(unmet(form(numbers("ab"), ("is", "a", 0), ("is", "a", 1)), ("is", "a", 2)))

    def test_the_empty_part_and_whole(self):
        told = form([("o", ("opt", BIT)), ("b", BIT)])
        self.assertEqual(unmet(told, ("has", "o")), ((), 0))
        self.assertEqual(unmet(told, ("not", ("has", "o"))), ((0,), 0))


class Large(unittest.TestCase):

    def large(self, function, *arguments):
        with self.assertRaises(TooLarge) as caught:
            function(*arguments)
        self.assertEqual(caught.exception.part, "part")

    def test_let_parts(self):
        told = form([("a", size(20)), ("b", size(20)), ("c", size(21)), ("d", size(401)), ("e", size(400)), ("f", size(1))])
        self.assertEqual(len(let_parts(told, ("a", "b"))), 400)
        self.assertEqual(len(let_parts(told, ("e",))), 400)
        self.assertEqual(len(let_parts(told, ("e", "f"))), 400)
        for paths in (("d",), ("a", "c"), ("a", "b", "c"), ("d", "f"), ("a", "b", "c", "d", "e", "f"), ("b", "e")):
            self.large(let_parts, told, paths)
        self.assertEqual(let_parts(told, ()), ((),))

    def test_groups_together(self):
        fits = form([("a", size(20)), ("b", size(20)), ("c", size(400))], ("upto", "a", "b", 0))
        self.assertEqual(least_let(fits), (1, 1, 1))
        self.assertEqual(let_many(fits), 210 * 400)
        self.assertEqual(unmet(fits, ("most", "b", 19)), (1, 20, 1))
        self.assertEqual(unmet(fits, ("most", "c", 399)), (1, 1, 400))
        self.large(unmet, fits, ("or", ("most", "c", 399), ("most", "a", 20)))
        loose = form([("a", size(20)), ("b", size(20)), ("c", size(21)), ("d", size(1))])
        self.assertEqual(unmet(loose, ("upto", "a", "b", 18)), (20, 1, 1, 1))
        self.assertIsNone(unmet(loose, ("upto", "a", "b", 19)))
        self.large(unmet, loose, ("upto", "a", "c", 19))
        self.large(unmet, loose, ("upto", "a", "c", 3000))
        self.large(unmet, loose, ("or", ("upto", "a", "b", 0), ("most", "c", 30)))
        self.large(unmet, loose, ("or", ("same", "d", "d"), ("upto", "c", "b", 0)))

    def test_some_group(self):
        for large in (form([("a", size(401)), ("b", BIT)]), form([("b", BIT), ("a", size(401))]),
                      form([("b", BIT), ("a", size(20)), ("c", size(21))], ("upto", "a", "c", 0)),
                      form([("a", size(401)), ("b", BIT)], ("is", "b", 0), ("is", "b", 1)),
                      form([("b", BIT), ("a", size(401))], ("is", "b", 0), ("is", "b", 1)),
                      form([("a", size(401)), ("b", BIT)], ("is", "a", 5)),
                      form([("a", size(401)), ("b", BIT)], ("is", "a", 5), ("is", "a", 6))):
            with self.subTest(form=large):
                self.large(least_let, large)
                self.large(let_many, large)
                self.large(unmet, large, ("is", "b", 0))
                self.large(unmet, large, ("is", "b", 1))
                self.large(unmet, large, ("same", "b", "b"))
                self.assertEqual(len(groups_of(large)), 2)
                self.assertEqual(let_parts(large, ("b",)), tuple((bit,) for bit in (0, 1) if ("is", "b", 0) not in large[2]))

    def test_no_let_whole_and_groups_together(self):
        told = form([("a", size(20)), ("b", size(21)), ("c", BIT)], ("is", "c", 0), ("is", "c", 1))
        self.assertIsNone(least_let(told))
        self.assertEqual(let_many(told), 0)
        self.assertIsNone(unmet(told, ("most", "a", 3)))
        self.large(unmet, told, ("upto", "a", "b", 0))

    def test_never(self):
        told = form([("a", size(1001)), ("b", size(1001)), ("c", BIT)], ("same", "a", "b"), ("is", "c", 1))
        self.assertEqual(groups_of(told), (("a", "b"), ("c",)))
        self.assertIs(is_let(told, (1000, 1000, 1)), True)
        self.assertIs(is_let(told, (1000, 999, 1)), False)
        self.assertIs(is_let(told, (1000, 1000, 0)), False)


if __name__ == "__main__":
    unittest.main()
