"""Ways that fit and do not, and mirrors: promises [2] and [10] to [14]."""

import unittest

from telltrove.ways import fits, mirror

BIT = ("num", 0, 1)
TRIT = ("num", 0, 2)
FAR = ("num", 7, 9)
AB = ("pick", ("a", "b"))
SAME = ("same",)
CLIP = ("clip",)
NONE = ("rec", ())


def size(many):
    return ("num", 1, many)


def opts(many, kind):
    for _ in range(many):
        kind = ("opt", kind)
    return kind


def each(many, way):
    for _ in range(many):
        way = ("opt", way)
    return way


def one(**arms):
    return ("one", tuple(sorted(arms.items())))


def rec(*kinds):
    return ("rec", tuple(zip("abcdef", kinds)))


class Judge(unittest.TestCase):

    def right(self, way, left, right):
        with self.subTest(way=way, left=left, right=right):
            self.assertIs(fits(way, left, right), True)
            self.assertIs(fits(mirror(way), right, left), True)
        self.inside(way, left, right, True)

    def wrong(self, way, left, right):
        with self.subTest(way=way, left=left, right=right):
            self.assertIs(fits(way, left, right), False)
        self.inside(way, left, right, False)

    def inside(self, way, left, right, told):
        """A way fits inside of every other way exactly if it fits."""
        for word in ("opt", "each"):
            more = () if word == "opt" else (3,)
            kinds = [("opt" if word == "opt" else "row", kind, *more) for kind in (left, right)]
            self.assertIs(fits((word, way), *kinds), told, (word, way, left, right))
        self.assertIs(fits(("some", way, least(left)), left, ("opt", right)), told, (way, left, right))
        self.assertIs(fits(("must", way, least(right)), ("opt", left), right), told, (way, left, right))
        for before in (False, True):
            trios = (("s", "t", way), ("u", "v", SAME))
            arms = (one(s=left, u=BIT), one(t=right, v=BIT))
            self.assertIs(fits(("arms", trios[::-1] if before else trios), *arms), told, (way, left, right))
            trios = ((0, 1, way), (1, 0, SAME))
            self.assertIs(fits(("parts", trios[::-1] if before else trios), rec(left, BIT), rec(BIT, right)), told)


def least(kind):
    word = kind[0]
    if word == "num":
        return kind[1]
    if word == "pick":
        return kind[1][0]
    if word in ("opt", "row"):
        return ()
    if word == "one":
        return kind[1][0][0], least(kind[1][0][1])
    return tuple(least(inner) for _, inner in kind[1])


class Bottoms(Judge):

    def test_same(self):
        for kind in (BIT, AB, opts(2, BIT), ("row", BIT, 2), one(a=BIT), rec(BIT, AB), NONE):
            self.right(SAME, kind, kind)
        for left, right in ((BIT, TRIT), (BIT, ("num", 1, 2)), (AB, BIT), (opts(1, BIT), BIT), (("row", BIT, 2), ("row", BIT, 3)),
                            (one(a=BIT), one(b=BIT)), (rec(BIT), rec(BIT, NONE)), (("pick", ("a", "c")), AB)):
            self.wrong(SAME, left, right)
            self.wrong(SAME, right, left)

    def test_rank(self):
        for left, right in ((BIT, AB), (TRIT, FAR), (opts(1, BIT), TRIT), (rec(), ("num", 5, 5)), (rec(BIT, BIT), size(4)),
                            (("row", BIT, 2), size(7)), (one(a=BIT, b=BIT), size(4)), (BIT, BIT)):
            self.right(("rank",), left, right)
        for left, right in ((BIT, TRIT), (AB, TRIT), (opts(1, BIT), BIT), (NONE, BIT), (("row", BIT, 2), size(6))):
            self.wrong(("rank",), left, right)
            self.wrong(("rank",), right, left)

    def test_table(self):
        self.right(("table", (7, 9), (1, 0, 0)), BIT, FAR)
        self.right(("table", ("a", "b", "b"), (0, 2)), TRIT, AB)
        self.right(("table", ((),), (5,)), ("num", 5, 5), NONE)
        self.right(("table", ((), (1,)), ("b", "a", "a")), AB, ("opt", BIT))
        self.right(("table", (1,) * 20, (1,) * 20), size(20), size(20))
        self.right(("table", (1,) * 20, (1,)), size(20), size(1))
        self.wrong(("table", (1,) * 21, (1,) * 20), size(21), size(20))
        self.wrong(("table", (1,) * 20, (1,) * 21), size(20), size(21))
        self.wrong(("table", (1,) * 21, (1,)), size(21), size(1))
        self.wrong(("table", (1,), (1,) * 21), size(1), size(21))
        for forth in ((7,), (7, 8, 9), (), (7, 6), (7, 10), (True, 7), (7, None), (7, "a"), (7, (8,)), 7, "ab", None, True, (0, 1)):
            self.wrong(("table", forth, (1, 0, 0)), BIT, FAR)
            self.wrong(("table", (1, 0, 0), forth), FAR, BIT)
        for back in ((1, 0), (1, 0, 0, 0), (), (1, 0, 2), (1, 0, True), (False, 0, 0), (1, 0, None), 1, None, "abc", (7, 7, 7)):
            self.wrong(("table", (7, 9), back), BIT, FAR)
        self.wrong(("table", ((True,), ()), (0, 0, 0)), BIT, ("opt", BIT))

    def test_clip(self):
        for left, right in ((BIT, TRIT), (TRIT, FAR), (BIT, BIT), (("num", -1000, 1000), ("num", 5, 5))):
            self.right(CLIP, left, right)
            self.right(CLIP, right, left)
        for other in (AB, ("opt", BIT), ("row", BIT, 2), one(a=BIT), rec(BIT), NONE):
            self.wrong(CLIP, BIT, other)
            self.wrong(CLIP, other, BIT)
            self.wrong(CLIP, other, other)

    def test_apart(self):
        self.right(("apart", 1, "b"), BIT, AB)
        self.right(("apart", (), ()), NONE, ("opt", BIT))
        self.right(("apart", ("a", 1), ((0,), 1)), one(a=BIT), rec(opts(1, BIT), BIT))
        for wrong in (2, -1, True, False, None, "a", (), (0,), "0"):
            self.wrong(("apart", wrong, "b"), BIT, AB)
            self.wrong(("apart", "b", wrong), AB, BIT)
        self.wrong(("apart", "b", 1), BIT, AB)
        self.wrong(("apart", (True,), 1), ("opt", BIT), BIT)
        self.wrong(("apart", 1, (0, (True,))), BIT, rec(BIT, ("opt", BIT)))

    def test_words(self):
        for way in (("samed",), ("",), ("Same",), ("none", SAME), ("num", 0, 1), ("mirror", SAME), ("row", SAME), ("one", ()),
                    ("has", "p"), ("rec", ()), ("", 1, 2, 3, 4)):
            self.wrong(way, BIT, BIT)
            self.wrong(way, ("row", BIT, 2), ("row", BIT, 2))
            self.wrong(way, NONE, NONE)


class Nested(Judge):

    def test_some_and_must(self):
        self.right(("some", SAME, 1), BIT, ("opt", BIT))
        self.right(("some", CLIP, 9), FAR, ("opt", BIT))
        self.right(("some", ("opt", SAME), ()), ("opt", BIT), opts(2, BIT))
        self.wrong(("some", SAME, 1), BIT, BIT)
        self.wrong(("some", SAME, ()), ("opt", BIT), BIT)
        self.wrong(("some", SAME, ()), ("opt", BIT), ("opt", BIT))
        self.wrong(("some", SAME, 1), BIT, ("opt", TRIT))
        self.wrong(("some", SAME, 1), BIT, ("row", BIT, 1))
        self.wrong(("some", CLIP, 1), FAR, ("opt", BIT))
        for wrong in (2, True, False, None, (), (1,), "a"):
            self.wrong(("some", SAME, wrong), BIT, ("opt", BIT))
            self.wrong(("must", SAME, wrong), ("opt", BIT), BIT)
        self.right(("must", SAME, 1), ("opt", BIT), BIT)
        self.right(("must", CLIP, 9), ("opt", BIT), FAR)
        self.wrong(("must", SAME, 1), BIT, BIT)
        self.wrong(("must", SAME, ()), BIT, ("opt", BIT))
        self.wrong(("must", SAME, ()), ("opt", BIT), ("opt", BIT))
        self.wrong(("must", SAME, 1), ("opt", TRIT), BIT)
        self.wrong(("must", SAME, 1), ("row", BIT, 1), BIT)
        self.wrong(("must", CLIP, 1), ("opt", BIT), FAR)

    def test_opt_and_each(self):
        row = ("row", BIT, 2)
        self.right(("opt", CLIP), ("opt", BIT), ("opt", FAR))
        self.right(("each", CLIP), row, ("row", FAR, 4))
        self.right(("each", SAME), ("row", BIT, 1), ("row", BIT, 4))
        self.right(("each", ("rank",)), ("row", BIT, 1), ("row", AB, 1))
        for word, kind in (("opt", ("opt", BIT)), ("each", row)):
            for other in (BIT, AB, one(a=BIT), rec(BIT), NONE, row if word == "opt" else ("opt", BIT)):
                self.wrong((word, SAME), kind, other)
                self.wrong((word, SAME), other, kind)
                self.wrong((word, SAME), other, other)
        self.wrong(("opt", SAME), ("opt", BIT), ("opt", TRIT))
        self.wrong(("each", SAME), row, ("row", TRIT, 2))
        self.wrong(("each", CLIP), row, ("row", AB, 2))

    def test_arms(self):
        left, right = one(a=BIT, b=TRIT), one(s=BIT, t=TRIT, u=FAR)
        good = (("a", "s", SAME), ("b", "t", SAME), ("b", "u", CLIP))
        self.right(("arms", good), left, right)
        self.right(("arms", good[::-1]), left, right)
        self.right(("arms", good + (("a", "t", CLIP), ("a", "u", CLIP), ("b", "s", CLIP))), left, right)
        self.right(("arms", (("a", "a", SAME), ("b", "b", SAME))), left, left)
        self.right(("arms", (("a", "b", CLIP), ("b", "a", CLIP))), left, left)
        for trios in ((), good[:2], good[1:], good[::2], good + (good[0],), good + (("a", "s", CLIP),),
                      good + (("b", "v", CLIP),), good + (("c", "s", SAME),), good + (("s", "a", SAME),),
                      good + (("", "s", SAME),), good + (("a", "t", SAME),), (("a", "s", SAME), ("b", "t", SAME), ("b", "u", SAME)),
                      (("a", "s", ("maybe",)), ("b", "t", SAME), ("b", "u", CLIP)), (("s", "a", SAME), ("t", "b", SAME)),
                      good[:2] + (("b", "u", ("apart", True, 7)),), (("a", "s", SAME), ("a", "t", CLIP), ("a", "u", CLIP)),
                      (("a", "s", SAME), ("b", "s", CLIP))):
            self.wrong(("arms", trios), left, right)
        for other in (BIT, ("opt", BIT), ("row", BIT, 2), rec(BIT, TRIT), NONE):
            self.wrong(("arms", (("a", "a", SAME), ("b", "b", SAME))), left, other)
            self.wrong(("arms", (("a", "a", SAME), ("b", "b", SAME))), other, left)
            self.wrong(("arms", ()), other, other)
        self.right(("arms", (("a", "s", ("apart", 0, 7)), ("b", "s", CLIP))), left, one(s=FAR))

    def test_parts(self):
        left, right = rec(BIT, TRIT, AB), rec(AB, FAR)
        put = ("apart", 0, ())
        good = ((0, None, put), (1, 1, CLIP), (2, 0, SAME))
        self.right(("parts", good), left, right)
        self.right(("parts", good[::-1]), left, right)
        self.right(("parts", ()), NONE, NONE)
        self.right(("parts", ((0, None, ("apart", 0, ())), (None, 0, ("apart", (), "a")))), rec(BIT), rec(AB))
        self.right(("parts", ((None, 0, ("rank",)),)), NONE, rec(("num", 3, 3)))
        self.right(("parts", ((None, 0, SAME),)), NONE, rec(NONE))
        self.right(("parts", ((0, 1, SAME), (1, 0, SAME))), rec(BIT, TRIT), rec(TRIT, BIT))
        for trios in ((), good[:2], good[1:], good[::2], good + (good[0],), good + ((None, None, SAME),),
                      good + ((None, 2, ("apart", (), 0)),), good + ((3, None, put),), good + ((-1, None, put),),
                      ((0, None, put), (1, 1, CLIP), (2, 0, CLIP)), ((0, None, CLIP), (1, 1, CLIP), (2, 0, SAME)),
                      ((0, 1, CLIP), (1, 1, CLIP), (2, 0, SAME)), ((0, None, put), (0, 1, CLIP), (2, 0, SAME)),
                      ((None, None, SAME), (1, 1, CLIP), (2, 0, SAME)), ((0, None, put), (1, -1, CLIP), (2, 0, SAME)),
                      ((0, None, put), (1, 2, CLIP), (2, 0, SAME)), ((0, None, ("apart", 0, 0)), (1, 1, CLIP), (2, 0, SAME)),
                      ((0, None, put), (-2, 1, CLIP), (2, 0, SAME)), ((0, None, put), (1, 0, CLIP), (2, 1, SAME)),
                      ((0, None, put), (1, None, put), (2, 0, SAME)), ((0, None, put), (1, 1, CLIP), (1000000, 0, SAME)),
                      good + ((0, None, put),), good + ((None, 0, ("apart", (), "a")),)):
            self.wrong(("parts", trios), left, right)
        for other in (BIT, ("opt", BIT), ("row", BIT, 2), one(a=BIT), AB):
            self.wrong(("parts", ((0, 0, SAME),)), rec(BIT), other)
            self.wrong(("parts", ((0, 0, SAME),)), other, rec(BIT))
            self.wrong(("parts", ()), other, other)

    def test_depth(self):
        for bottom in (SAME, ("rank",), CLIP, ("apart", 0, 0), ("table", (0, 0), (1, 1))):
            for many in range(6):
                self.assertIs(fits(each(many, bottom), opts(many, BIT), opts(many, BIT)), True)
            for many in (6, 7, 8, 20):
                self.assertIs(fits(each(many, bottom), opts(many, BIT), opts(many, BIT)), False)
        five, six = each(4, SAME), each(5, SAME)
        inner, deeper = opts(4, BIT), opts(5, BIT)
        for way, kind, told in ((five, inner, True), (six, deeper, False)):
            self.assertIs(fits(("some", way, ()), kind, ("opt", kind)), told)
            self.assertIs(fits(("must", way, ()), ("opt", kind), kind), told)
            self.assertIs(fits(("each", way), ("row", kind, 1), ("row", kind, 2)), told)
            self.assertIs(fits(("arms", (("a", "a", SAME), ("b", "b", way))), one(a=BIT, b=kind), one(a=BIT, b=kind)), told)
            self.assertIs(fits(("parts", ((0, 0, SAME), (1, 1, way))), rec(BIT, kind), rec(BIT, kind)), told)
            self.assertIs(fits(("parts", ((0, 0, way), (1, 1, SAME))), rec(kind, BIT), rec(kind, BIT)), told)

    def test_kinds_of_sides(self):
        """The kind of a side can be deeper and larger than a kind of a leaf."""
        wide = ("rec", tuple((name, ("num", 1, 1000)) for name in "abcdef"))
        side = ("rec", tuple((name, wide) for name in "abcd"))
        self.assertIs(fits(SAME, side, side), True)
        self.assertIs(fits(("rank",), side, ("rec", (("a", side),))), True)
        self.assertIs(fits(("rank",), side, ("rec", (("a", side), ("b", BIT)))), False)
        deep = rec(opts(3, BIT), BIT)
        self.assertIs(fits(("parts", ((0, 1, SAME), (1, 0, SAME))), deep, rec(BIT, opts(3, BIT))), True)


class Mirrors(unittest.TestCase):

    def test_each_word(self):
        told = (
            (SAME, SAME), (("rank",), ("rank",)), (CLIP, CLIP),
            (("table", (1, 2), (3,)), ("table", (3,), (1, 2))), (("apart", 1, "b"), ("apart", "b", 1)),
            (("some", CLIP, 3), ("must", CLIP, 3)), (("must", CLIP, 3), ("some", CLIP, 3)),
            (("opt", ("apart", 1, 2)), ("opt", ("apart", 2, 1))), (("each", ("apart", 1, 2)), ("each", ("apart", 2, 1))),
            (("some", ("must", ("apart", 1, 2), 3), 4), ("must", ("some", ("apart", 2, 1), 3), 4)),
            (("arms", (("a", "b", ("apart", 1, 2)), ("c", "d", ("some", SAME, 1)))),
             ("arms", (("b", "a", ("apart", 2, 1)), ("d", "c", ("must", SAME, 1))))),
            (("parts", ((0, None, ("apart", 1, ())), (None, 1, ("apart", (), 2)), (2, 0, ("opt", ("table", (1,), (2,)))))),
             ("parts", ((None, 0, ("apart", (), 1)), (1, None, ("apart", 2, ())), (0, 2, ("opt", ("table", (2,), (1,))))))),
            (("arms", ()), ("arms", ())), (("parts", ()), ("parts", ())),
        )
        for way, other in told:
            with self.subTest(way=way):
                self.assertEqual(repr(mirror(way)), repr(other))
                self.assertEqual(repr(mirror(other)), repr(way))
                self.assertEqual(repr(mirror(mirror(way))), repr(way))


if __name__ == "__main__":
    unittest.main()
