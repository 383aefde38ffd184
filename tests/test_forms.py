"""Forms, leaves, flats and wholes: promises [2], [5] and [6]."""

import itertools
import unittest

from telltrove.forms import flat_of, is_form, is_whole, leaves_of, whole_of

BIT = ("num", 0, 1)
TRIT = ("num", 0, 2)
EIGHT = ("a", "b", "c", "d", "e", "f", "g", "h")
PAIR = ("rec", (("x", BIT), ("y", TRIT)))


def form(fields, rules=()):
    return ("form", tuple(fields), tuple(rules))


def all_values(kind):
    word = kind[0]
    if word == "num":
        return list(range(kind[1], kind[2] + 1))
    if word == "opt":
        return [()] + [(v,) for v in all_values(kind[1])]
    if word == "row":
        return sorted(row for k in range(kind[2] + 1) for row in itertools.product(all_values(kind[1]), repeat=k))
    if word == "one":
        return [(tag, v) for tag, inner in kind[1] for v in all_values(inner)]
    return list(itertools.product(*[all_values(inner) for _, inner in kind[1]]))


NESTED = form((
    ("n", BIT),
    ("home", ("rec", (("z", TRIT), ("in", ("rec", (("x", BIT), ("gone", ("rec", ()))))), ("y", ("opt", PAIR))))),
    ("none1", ("rec", ())),
    ("list", ("row", ("rec", (("q", BIT),)), 1)),
    ("arm", ("one", (("s", PAIR), ("t", ("rec", ()))))),
))
NESTED_LEAVES = (
    ("n", BIT),
    ("home.z", TRIT),
    ("home.in.x", BIT),
    ("home.y", ("opt", PAIR)),
    ("list", ("row", ("rec", (("q", BIT),)), 1)),
    ("arm", ("one", (("s", PAIR), ("t", ("rec", ()))))),
)


class Leaves(unittest.TestCase):

    def test_plain(self):
        self.assertEqual(leaves_of(form((("b", BIT), ("a", TRIT)))), (("b", BIT), ("a", TRIT)))

    def test_recs_in_recs(self):
        self.assertEqual(leaves_of(NESTED), NESTED_LEAVES)
        deep = ("rec", (("a", ("rec", (("b", ("rec", (("c", BIT), ("d", TRIT)))), ("e", BIT)))),))
        self.assertEqual(leaves_of(form((("t", deep), ("a", BIT)))),
                         (("t.a.b.c", BIT), ("t.a.b.d", TRIT), ("t.a.e", BIT), ("a", BIT)))

    def test_recs_inside_of_other_kinds_stay(self):
        for kind in (("opt", PAIR), ("row", PAIR, 2), ("one", (("a", PAIR),))):
            self.assertEqual(leaves_of(form((("p", kind),))), (("p", kind),))
            self.assertEqual(leaves_of(form((("p", ("rec", (("q", kind),))),))), (("p.q", kind),))

    def test_no_leaves(self):
        empty = form((("p", ("rec", ())), ("q", ("rec", (("r", ("rec", ())),)))))
        self.assertEqual(leaves_of(empty), ())
        self.assertEqual(flat_of(empty, ((), ((),))), ())
        self.assertEqual(whole_of(empty, ()), ((), ((),)))
        self.assertIs(is_form(empty), True)
        self.assertIs(is_whole(empty, ((), ((),))), True)
        self.assertIs(is_whole(empty, ((), ())), False)


class Flats(unittest.TestCase):

    def test_by_hand(self):
        whole = (1, (2, (0, ()), ((1, 2),)), (), ((1,),), ("s", (0, 1)))
        flat = (1, 2, 0, ((1, 2),), ((1,),), ("s", (0, 1)))
        self.assertEqual(flat_of(NESTED, whole), flat)
        self.assertEqual(whole_of(NESTED, flat), whole)
        self.assertEqual(flat_of(form((("b", BIT), ("a", TRIT))), (1, 2)), (1, 2))
        self.assertEqual(whole_of(form((("b", BIT), ("a", TRIT))), (1, 2)), (1, 2))

    def test_one_to_one_and_in_order(self):
        forms = (
            form((("a", BIT), ("b", TRIT))),
            form((("a", PAIR), ("b", PAIR))),
            form((("a", ("rec", (("p", PAIR), ("q", BIT)))), ("e", ("rec", ())), ("b", ("opt", PAIR)))),
            form((("e", ("rec", ())),)),
            form((("a", ("rec", (("e", ("rec", ())), ("p", ("row", BIT, 2))))), ("b", ("one", (("s", BIT), ("t", PAIR)))))),
        )
        for told in forms:
            with self.subTest(form=told):
                wholes = list(itertools.product(*[all_values(kind) for _, kind in told[1]]))
                flats = list(itertools.product(*[all_values(kind) for _, kind in leaves_of(told)]))
                self.assertEqual(wholes, sorted(wholes))
                self.assertEqual(flats, sorted(flats))
                self.assertEqual([flat_of(told, whole) for whole in wholes], flats)
                self.assertEqual([whole_of(told, flat) for flat in flats], wholes)


class RightForms(unittest.TestCase):

    def right(self, *forms):
        for told in forms:
            with self.subTest(form=told):
                self.assertIs(is_form(told), True)

    def wrong(self, *forms):
        for told in forms:
            with self.subTest(form=told):
                self.assertIs(is_form(told), False)

    def test_fields(self):
        self.right(form((("a", BIT),)), form((name, BIT) for name in EIGHT), form((("b", BIT), ("a", BIT))), NESTED)
        self.wrong(form(()), form((name, BIT) for name in EIGHT + ("i",)), form((("a", BIT), ("a", TRIT))),
                   form((("a", BIT), ("b", BIT), ("a", BIT))))

    def test_names(self):
        self.right(*[form(((name, BIT),)) for name in ("a", "abcdefgh", "a1", "form", "is")])
        self.wrong(*[form(((name, BIT),)) for name in ("", "abcdefghi", "1", "A", "a.b", "num", "rule", "none", "a ")])
        self.wrong(*[form((("a", BIT), (name, BIT))) for name in ("", "abcdefghi", "1", "A", "a.b", "num", "rule")])

    def test_kinds(self):
        self.wrong(form((("a", ("num", 1, 0)),)), form((("a", BIT), ("b", ("int", 0, 1)))), form((("a", ("pick", ())),)),
                   form((("a", ("opt", ("opt", ("opt", ("opt", BIT))))),)),
                   form((("a", ("rec", (("b", BIT), ("b", BIT)))),)), form((("a", ("row", BIT, 5)), ("b", BIT))))

    def test_leaves(self):
        six = ("rec", tuple((name, BIT) for name in EIGHT[:6]))
        self.right(form((("a", six), ("b", six))))
        self.right(form((("a", six), ("b", six), ("c", ("rec", ())))))
        self.wrong(form((("a", six), ("b", six), ("c", BIT))))
        self.wrong(form((("a", six), ("b", six), ("c", six))))
        self.right(form((("a", six), ("b", ("opt", six)), ("c", ("opt", six)), ("d", ("row", six, 1)))))
        most = tuple((name, BIT) for name in EIGHT[:7])
        self.right(form(most + (("h", ("rec", tuple((name, BIT) for name in EIGHT[:5]))),)))
        self.wrong(form(most + (("h", six),)))

    def test_rules(self):
        rule = ("is", "a", 0)
        for many in (0, 1, 8):
            self.right(form((("a", BIT),), (rule,) * many))
        self.wrong(form((("a", BIT),), (rule,) * 9))
        self.right(form((("p", PAIR), ("q", TRIT)), (("same", "p.y", "q"), ("upto", "p.x", "q", -3000))))
        wrong_rules = (("is", "a", 2), ("is", "a", True), ("is", "b", 0), ("has", "a"), ("is", "p", (0, 0)),
                       ("same", "p.x", "p.y"), ("most", "p.z", 0), ("most", "a", 3001), ("maybe", "a"), ("is", "", 0),
                       ("not", ("is", "a", 2)), ("most", "y", 1), ("most", "p.", 1), ("most", ".p.x", 1))
        for wrong in wrong_rules:
            self.wrong(form((("a", BIT), ("p", PAIR)), (wrong,)))
            self.wrong(form((("a", BIT), ("p", PAIR)), (rule, rule, wrong)))
            self.wrong(form((("a", BIT), ("p", PAIR)), (wrong, rule)))

    def test_word(self):
        self.wrong(("forms", (("a", BIT),), ()), ("", (("a", BIT),), ()), ("num", 0, 1), ("house",), ("a", 1, 2, 3))


class Wholes(unittest.TestCase):

    def test_wholes(self):
        told = form((("a", BIT), ("p", PAIR), ("o", ("opt", BIT))), (("is", "a", 0),))
        for whole in ((0, (0, 0), ()), (0, (1, 2), (1,)), (1, (0, 0), ())):
            self.assertIs(is_whole(told, whole), True, whole)
        wrong = ((), (0,), (0, (0, 0)), (0, (0, 0), (), 0), (True, (0, 0), ()), (0, (False, 0), ()), (0, (0, 0), (True,)),
                 (0, 0, 0, ()), (2, (0, 0), ()), (0, (0, 3), ()), None, 0, True, "", "abc", ((0, (0, 0), ()),),
                 (0, (0, 0), None), (0, None, ()), (None,) * 3)
        for thing in wrong:
            self.assertIs(is_whole(told, thing), False, thing)
        one = form((("a", BIT),))
        for thing in (0, 1, "a", None, (True,), (2,), ((0,),), (0, 0), ()):
            self.assertIs(is_whole(one, thing), False, thing)
        self.assertIs(is_whole(one, (1,)), True)


if __name__ == "__main__":
    unittest.main()
