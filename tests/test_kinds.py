"""Kinds, values, sizes and ranks: promises [2], [3] and [4]."""

import itertools
import unittest

from telltrove.kinds import is_kind, is_value, rank_of, size_of, value_at

RESERVED = (
    "open add from retire rule step to by none num pick opt row of one rec same rank clip table apart some must "
    "each arms parts or and not has tag long"
).split()
BIT = ("num", 0, 1)
SIX = ("a", "b", "c", "d", "e", "f")
THOUSAND = ("num", 1, 1000)
MILLION_CUBED = ("rec", tuple((name, THOUSAND) for name in SIX))
BAD_NAMES = ("", "abcdefghi", "a2345678b", "1a", "9", "A", "aB", "a_b", "_a", "a-b", "a b", " a", "a ", "a.b", "a\n",
             "\n", "-a", "\u00e4", "a\u00e4", "\u0661", "a\u0662", "a\u00b2", "{", "%") + tuple(RESERVED)
GOOD_NAMES = ("a", "z", "a1", "a0", "z9", "abcdefgh", "a2345678", "opens", "ope", "no", "yes", "is", "most", "upto",
              "put", "drop", "form", "nums", "toto", "ro", "lon", "longs", "let")


def names(many):
    return tuple("n%02d" % number for number in range(many))


def opts(many, kind):
    for _ in range(many):
        kind = ("opt", kind)
    return kind


def all_values(kind):
    """All values of a small kind, in no order, by the table of [3] alone."""
    word = kind[0]
    if word == "num":
        return list(range(kind[1], kind[2] + 1))
    if word == "pick":
        return list(kind[1])
    if word == "opt":
        return [()] + [(v,) for v in all_values(kind[1])]
    if word == "row":
        return [row for k in range(kind[2] + 1) for row in itertools.product(all_values(kind[1]), repeat=k)]
    if word == "one":
        return [(tag, v) for tag, inner in kind[1] for v in all_values(inner)]
    return list(itertools.product(*[all_values(inner) for _, inner in kind[1]]))


SMALL = (
    ("num", 0, 0), ("num", -3, 4), ("num", 1000, 1000), ("num", -1000, -998),
    ("pick", ("a",)), ("pick", ("a", "a1", "b", "ba", "c9")),
    ("opt", ("num", -1, 2)), ("opt", ("opt", ("num", 5, 6))), ("opt", ("opt", ("opt", BIT))), ("opt", ("rec", ())),
    ("row", BIT, 1), ("row", BIT, 2), ("row", BIT, 4), ("row", ("num", -1, 1), 3), ("row", ("pick", ("p",)), 4),
    ("row", ("opt", BIT), 2), ("row", ("row", BIT, 2), 2), ("row", ("rec", ()), 3),
    ("row", ("one", (("a", BIT), ("b", ("pick", ("x", "y", "z"))))), 2),
    ("one", (("a", BIT),)), ("one", (("a", ("num", 3, 5)), ("b", ("rec", ())), ("c", ("opt", BIT)))),
    ("one", (("a", ("pick", ("z",))), ("b", ("pick", ("a", "b"))), ("ba", ("row", BIT, 2)))),
    ("one", tuple((tag, ("num", 0, place)) for place, tag in enumerate(SIX))),
    ("rec", ()), ("rec", (("a", ("num", 2, 4)),)), ("rec", (("z", ("num", 0, 2)), ("a", ("pick", ("n", "y"))))),
    ("rec", (("a", BIT), ("b", ("num", 0, 2)), ("c", ("num", 0, 3)))),
    ("rec", (("a", ("opt", BIT)), ("b", ("row", BIT, 2)), ("c", ("one", (("s", BIT), ("t", ("num", 7, 9))))))),
    ("rec", (("a", ("rec", (("a", BIT), ("b", ("num", 0, 2))))), ("b", ("rec", ())), ("c", BIT))),
    ("opt", ("rec", (("a", ("row", BIT, 2)), ("b", ("pick", ("u", "v")))))),
)


class RightKinds(unittest.TestCase):

    def right(self, *kinds):
        for kind in kinds:
            with self.subTest(kind=kind):
                self.assertIs(is_kind(kind), True)

    def wrong(self, *kinds):
        """The kinds are wrong, alone and inside of every other word."""
        for kind in kinds:
            around = (kind, ("opt", kind), ("row", kind, 2), ("one", (("a", kind), ("b", BIT))),
                      ("one", (("a", BIT), ("b", kind))), ("rec", (("a", kind),)),
                      ("rec", (("a", BIT), ("b", kind), ("c", BIT))))
            for whole in around:
                with self.subTest(kind=whole):
                    self.assertIs(is_kind(whole), False)

    def test_num(self):
        self.right(("num", -1000, 1000), ("num", 0, 0), ("num", 1000, 1000), ("num", -1000, -1000), ("num", -5, -4))
        self.wrong(("num", -1001, 0), ("num", 0, 1001), ("num", 1, 0), ("num", 1000, -1000), ("num", -1001, -1001),
                   ("num", 1001, 1001), ("num", -1000000, 1000000), ("num", 5, 4), ("num", 1000000, 1000000))

    def test_pick(self):
        self.right(("pick", ("a",)), ("pick", names(12)), ("pick", ("a", "a0", "aa", "b")))
        self.wrong(("pick", ()), ("pick", names(13)), ("pick", ("b", "a")), ("pick", ("a", "a")),
                   ("pick", ("a", "c", "b")), ("pick", ("a", "b", "b")), ("pick", names(40)))

    def test_base_names(self):
        for name in GOOD_NAMES:
            self.right(("pick", (name,)), ("one", ((name, BIT),)), ("rec", ((name, BIT),)))
        for name in BAD_NAMES:
            self.wrong(("pick", (name,)), ("one", ((name, BIT),)), ("rec", ((name, BIT),)),
                       ("pick", tuple(sorted((name, "m")))), ("rec", (("m", BIT), (name, BIT))),
                       ("one", tuple(sorted((("m", BIT), (name, BIT))))))

    def test_row(self):
        self.right(*[("row", BIT, most) for most in (1, 2, 3, 4)])
        self.wrong(*[("row", BIT, most) for most in (0, 5, -1, 6, 1000000, -1000000)])

    def test_one(self):
        self.right(("one", (("a", BIT),)), ("one", tuple((tag, BIT) for tag in SIX)),
                   ("one", (("a", BIT), ("a0", ("pick", ("x",))))))
        self.wrong(("one", ()), ("one", tuple((tag, BIT) for tag in SIX + ("g",))),
                   ("one", (("b", BIT), ("a", BIT))), ("one", (("a", BIT), ("a", BIT))),
                   ("one", (("a", BIT), ("c", BIT), ("b", BIT))), ("one", (("a", BIT), ("a", ("num", 2, 3)))))

    def test_rec(self):
        self.right(("rec", ()), ("rec", (("a", BIT),)), ("rec", tuple((name, BIT) for name in SIX)),
                   ("rec", (("b", BIT), ("a", BIT))), ("rec", (("a", BIT), ("b", ("rec", (("a", BIT),))))))
        self.wrong(("rec", tuple((name, BIT) for name in SIX + ("g",))), ("rec", (("a", BIT), ("a", BIT))),
                   ("rec", (("a", BIT), ("b", BIT), ("a", ("num", 2, 3)))))

    def test_depth(self):
        for leaf in (BIT, ("pick", ("a",)), ("rec", ())):
            self.right(*[opts(many, leaf) for many in (0, 1, 2, 3)])
            self.wrong(opts(4, leaf), opts(5, leaf), opts(50, leaf))
        deep = opts(2, BIT)
        deeper = opts(3, BIT)
        for kind in (deep, ("row", ("one", (("a", BIT),)), 2), ("rec", (("a", ("row", BIT, 1)),))):
            self.right(("opt", kind), ("row", kind, 1), ("one", (("a", kind),)), ("rec", (("a", kind),)),
                       ("rec", (("a", kind), ("b", BIT))), ("one", (("a", BIT), ("b", kind))))
        for kind in (deeper, ("row", ("row", ("row", BIT, 1), 1), 1), ("rec", (("a", deep),)), ("one", (("a", deep),))):
            self.right(kind)
            self.wrong(("opt", kind), ("row", kind, 1), ("one", (("a", kind),)), ("rec", (("a", kind),)),
                       ("rec", (("a", kind), ("b", BIT))), ("one", (("a", BIT), ("b", kind))))

    def test_size(self):
        five = tuple((name, THOUSAND) for name in SIX[:5])
        self.assertEqual(size_of(MILLION_CUBED), 10 ** 18)
        self.right(MILLION_CUBED)
        many = ("one", (("a", ("rec", five + (("f", ("num", 1, 999)),))), ("b", ("rec", five))))
        self.assertEqual(size_of(many), 10 ** 18)
        self.right(many)
        over = ("one", (("a", ("rec", five + (("f", ("num", 1, 999)),))), ("b", ("rec", five)), ("c", ("num", 1, 1))))
        self.assertEqual(size_of(over), 10 ** 18 + 1)
        self.wrong(over, ("opt", MILLION_CUBED), ("row", MILLION_CUBED, 1), ("rec", five + (("f", ("num", 0, 1000)),)),
                   ("row", ("row", ("num", -1000, 1000), 4), 2), ("row", ("row", ("row", ("num", -9, 9), 4), 4), 4))
        self.right(("rec", (("a", MILLION_CUBED), ("b", ("num", 4, 4)))), ("one", (("a", MILLION_CUBED),)))
        self.assertIs(is_kind(("rec", (("a", MILLION_CUBED), ("b", BIT)))), False)
        self.right(("row", ("row", ("num", 1, 10), 4), 4))

    def test_words(self):
        self.wrong(("int", 0, 1), ("bool",), ("none",), ("", 0, 1), ("nums", 0, 1), ("Num", 0, 1), ("form", (), ()),
                   ("same",), ("opts", BIT), ("list", BIT, 2), ("a", 1, 2, 3, 4, 5), ("is", "p", 0))


class Values(unittest.TestCase):

    def judge(self, kind, right, wrong):
        for value in right:
            with self.subTest(kind=kind, right=value):
                self.assertIs(is_value(kind, value), True)
        for value in wrong:
            with self.subTest(kind=kind, wrong=value):
                self.assertIs(is_value(kind, value), False)

    def test_num(self):
        self.judge(("num", -2, 3), range(-2, 4), (-3, 4, True, False, None, "", "0", "a", (), (0,), ((0,),), 10 ** 6))
        self.judge(BIT, (0, 1), (True, False, -1, 2, None))
        self.judge(("num", 1, 1), (1,), (True, 0))

    def test_pick(self):
        self.judge(("pick", ("abc", "b")), ("abc", "b"),
                   ("a", "c", "", "bc", "B", None, True, False, 0, 1, (), ("b",), ("abc", "b")))
        self.judge(("pick", ("num",)), ("num",), ("nu", "n"))

    def test_opt(self):
        self.judge(("opt", BIT), ((), (0,), (1,)),
                   (None, 0, 1, (2,), (True,), (False,), (0, 1), (0, 0), ((),), ((0,),), "", "a", (None,), False))
        self.judge(("opt", ("opt", BIT)), ((), ((),), ((0,),)), ((0,), (((),),), ((), ()), ((True,),), (None,)))

    def test_row(self):
        self.judge(("row", BIT, 2), ((), (0,), (1, 0), (1, 1)),
                   ((0, 0, 0), (2,), (0, True), (False,), None, 0, "", "01", ((0,),), ((),), (0, None), (0, 2), (2, 0)))
        self.judge(("row", ("row", BIT, 1), 2), ((), ((),), ((1,), ())), (((True,),), ((0, 0),), (0,), ((), (), ())))
        self.judge(("row", BIT, 4), ((0, 1, 0, 1),), ((0,) * 5, (0, 0, 0, 2), (0,) * 30))

    def test_one(self):
        kind = ("one", (("a", BIT), ("b", ("pick", ("x",))), ("c", ("rec", ()))))
        self.judge(kind, (("a", 0), ("a", 1), ("b", "x"), ("c", ())),
                   (("a", True), ("a", False), ("a", "x"), ("b", 0), ("d", 0), ("c", 0), ("c", None), ("a",), (), None,
                    ("a", 0, 0), (0, "a"), "a", "ab", 0, (True, 0), (None, 0), ((), 0), ("", 0), (("a", 0),), ("c",)))
        self.judge(("one", (("a", ("num", 0, 1)), ("b", ("num", 5, 6)))), (("a", 1), ("b", 5)), (("a", 5), ("b", 1)))

    def test_rec(self):
        self.judge(("rec", ()), ((),), (None, 0, (0,), ((),), "", False))
        kind = ("rec", (("p", BIT), ("q", ("opt", BIT))))
        self.judge(kind, ((0, ()), (1, (1,))),
                   ((), (0,), (0, (), 0), (0, (), ()), (True, ()), (0, (True,)), ((), 0), (0, None), None, "ab", (2, ()),
                    (0, (2,)), 0))

    def test_bools_and_deep_things(self):
        deep = ()
        for _ in range(29):
            deep = (deep,)
        for kind in SMALL:
            for thing in (True, False, None, deep, ((), (), (), (), ()), "None", (True,), ("a", True), (None, None)):
                with self.subTest(kind=kind, thing=thing):
                    self.assertIs(is_value(kind, thing), False)

    def test_values_with_a_bool_for_a_number(self):
        def swapped(value):
            """Each value in which one 0 or 1 is a bool instead."""
            if isinstance(value, int):
                return [bool(value)] if value in (0, 1) else []
            if not isinstance(value, tuple):
                return []
            return [value[:k] + (new,) + value[k + 1:] for k in range(len(value)) for new in swapped(value[k])]

        seen = 0
        for kind in SMALL:
            for value in all_values(kind):
                for other in swapped(value):
                    seen += 1
                    self.assertEqual(other, value)
                    self.assertIs(is_value(kind, other), False, (kind, other))
        self.assertGreater(seen, 100)


class Ranks(unittest.TestCase):

    def test_small_kinds(self):
        for kind in SMALL:
            with self.subTest(kind=kind):
                self.assertIs(is_kind(kind), True)
                told = sorted(all_values(kind))
                self.assertEqual(size_of(kind), len(told))
                for rank, value in enumerate(told):
                    self.assertEqual(repr(value_at(kind, rank)), repr(value))
                    self.assertEqual(rank_of(kind, value), rank)
                    self.assertIs(is_value(kind, value), True)

    def test_sizes(self):
        self.assertEqual(size_of(("num", -1000, 1000)), 2001)
        self.assertEqual(size_of(("pick", names(12))), 12)
        self.assertEqual(size_of(("opt", ("num", 1, 7))), 8)
        self.assertEqual(size_of(("row", ("num", 1, 10), 4)), 11111)
        self.assertEqual(size_of(("row", ("num", 1, 1), 4)), 5)
        self.assertEqual(size_of(("one", (("a", ("num", 1, 7)), ("b", ("num", 1, 9))))), 16)
        self.assertEqual(size_of(("rec", (("a", ("num", 1, 7)), ("b", ("num", 1, 9))))), 63)
        self.assertEqual(size_of(("rec", ())), 1)

    def test_least_values(self):
        self.assertEqual(value_at(("num", -7, 4), 0), -7)
        self.assertEqual(value_at(("pick", ("d", "e")), 0), "d")
        self.assertEqual(value_at(("opt", BIT), 0), ())
        self.assertEqual(value_at(("row", BIT, 4), 0), ())
        self.assertEqual(value_at(("one", (("a", ("num", 3, 4)), ("b", BIT))), 0), ("a", 3))
        self.assertEqual(value_at(("rec", (("a", ("num", 3, 4)), ("b", ("opt", BIT)))), 0), (3, ()))

    def test_large_kinds(self):
        wide = ("num", -1000, 1000)
        parts = tuple((name, wide) for name in SIX[:5])
        large = (
            (("row", wide, 4), (-1000,), (1000,) * 4),
            (("rec", parts), (-1000,) * 4 + (-999,), (1000,) * 5),
            (MILLION_CUBED, (1,) * 5 + (2,), (1000,) * 6),
            (("opt", ("rec", parts)), ((-1000,) * 5,), ((1000,) * 5,)),
            (("one", (("a", ("rec", ())), ("b", ("rec", parts)))), ("b", (-1000,) * 5), ("b", (1000,) * 5)),
            (("row", ("rec", (("a", wide), ("b", wide))), 2), ((-1000, -1000),), ((1000, 1000),) * 2),
            (("rec", (("a", ("row", wide, 2)), ("b", ("row", wide, 3)))), ((), (-1000,)), ((1000,) * 2, (1000,) * 3)),
        )
        for kind, second, last in large:
            with self.subTest(kind=kind):
                size = size_of(kind)
                self.assertIs(is_kind(kind), True)
                self.assertEqual(value_at(kind, 1), second)
                self.assertEqual(value_at(kind, size - 1), last)
                ranks = (0, 1, 2, size // 7, size // 3, size // 2, size - 2, size - 1)
                for rank in ranks:
                    value = value_at(kind, rank)
                    self.assertIs(is_value(kind, value), True)
                    self.assertEqual(rank_of(kind, value), rank)
                told = [value_at(kind, rank) for rank in ranks]
                self.assertEqual(told, sorted(told))
                middle = size // 2
                self.assertLess(value_at(kind, middle), value_at(kind, middle + 1))
        self.assertEqual(rank_of(MILLION_CUBED, (1, 1, 1, 1, 2, 1)), 1000)
        self.assertEqual(rank_of(MILLION_CUBED, (2, 1, 1, 1, 1, 1)), 10 ** 15)
        self.assertEqual(rank_of(("row", THOUSAND, 2), (2,)), 1 + 1001)
        self.assertEqual(value_at(("row", THOUSAND, 2), 1003), (2, 1))


if __name__ == "__main__":
    unittest.main()
