"""What ways relate and lead: promises [2], [10] to [13], [14] and [15]."""

import itertools
import unittest

from telltrove.kinds import is_value
from telltrove.leading import led, related
from telltrove.ways import fits, mirror

BIT = ("num", 0, 1)
TRIT = ("num", 0, 2)
FIVE = ("num", 0, 5)
AB = ("pick", ("a", "b"))
SAME = ("same",)
RANK = ("rank",)
CLIP = ("clip",)
NONE = ("rec", ())
SWAP = ("table", (1, 0), (1, 0))


def num(low, high):
    return ("num", low, high)


def one(**arms):
    return ("one", tuple(sorted(arms.items())))


def rec(*kinds):
    return ("rec", tuple(zip("abcdef", kinds)))


def opt(kind):
    return ("opt", kind)


def all_values(kind):
    word = kind[0]
    if word == "num":
        return list(range(kind[1], kind[2] + 1))
    if word == "pick":
        return list(kind[1])
    if word == "opt":
        return [()] + [(v,) for v in all_values(kind[1])]
    if word == "row":
        return sorted(row for k in range(kind[2] + 1) for row in itertools.product(all_values(kind[1]), repeat=k))
    if word == "one":
        return [(tag, v) for tag, inner in kind[1] for v in all_values(inner)]
    return list(itertools.product(*[all_values(inner) for _, inner in kind[1]]))


# Ways with the kinds that they fit: every word, alone and inside of others.
CATALOG = (
    (SAME, TRIT, TRIT), (SAME, opt(BIT), opt(BIT)), (SAME, NONE, NONE),
    (RANK, TRIT, num(7, 9)), (RANK, opt(BIT), TRIT), (RANK, rec(BIT, BIT), ("row", ("pick", ("x",)), 3)),
    (("table", (7, 9), (1, 0, 0)), BIT, num(7, 9)), (("table", ("a", "a", "b"), (2, 0)), TRIT, AB),
    (("table", ((), (), (1,)), (0, 1, 1)), TRIT, opt(BIT)), (SWAP, BIT, BIT),
    (CLIP, TRIT, FIVE), (CLIP, FIVE, TRIT), (CLIP, num(-3, 2), num(0, 4)), (CLIP, BIT, num(5, 6)), (CLIP, num(5, 6), BIT),
    (CLIP, num(0, 0), num(-2, 2)), (CLIP, TRIT, TRIT),
    (("apart", 1, "b"), BIT, AB), (("apart", (), 2), opt(BIT), TRIT), (("apart", (0,), ()), opt(BIT), opt(AB)),
    (("some", SAME, 1), TRIT, opt(TRIT)), (("some", CLIP, 0), FIVE, opt(BIT)), (("some", CLIP, 2), TRIT, opt(FIVE)),
    (("some", ("apart", 0, "b"), 1), BIT, opt(AB)), (("some", ("opt", SAME), ()), opt(BIT), opt(opt(BIT))),
    (("must", SAME, 1), opt(TRIT), TRIT), (("must", CLIP, 0), opt(FIVE), BIT), (("must", CLIP, 2), opt(BIT), FIVE),
    (("must", ("apart", 0, "b"), "a"), opt(BIT), AB), (("must", ("must", SAME, 1), 0), opt(opt(BIT)), BIT),
    (("must", ("opt", SAME), ()), opt(opt(BIT)), opt(BIT)), (("some", ("must", SAME, 1), (0,)), opt(BIT), opt(BIT)),
    (("opt", SAME), opt(BIT), opt(BIT)), (("opt", CLIP), opt(BIT), opt(TRIT)), (("opt", ("apart", 0, 0)), opt(BIT), opt(TRIT)),
    (("opt", ("opt", CLIP)), opt(opt(TRIT)), opt(opt(BIT))), (("opt", ("some", SAME, 0)), opt(BIT), opt(opt(BIT))),
    (("each", SAME), ("row", BIT, 2), ("row", BIT, 4)), (("each", SAME), ("row", BIT, 4), ("row", BIT, 2)),
    (("each", CLIP), ("row", TRIT, 2), ("row", BIT, 3)), (("each", CLIP), ("row", BIT, 3), ("row", TRIT, 1)),
    (("each", ("apart", 0, 1)), ("row", BIT, 2), ("row", TRIT, 2)), (("each", SAME), ("row", TRIT, 2), ("row", TRIT, 2)),
    (("each", ("some", SAME, 1)), ("row", BIT, 2), ("row", opt(BIT), 3)),
    (("each", ("each", CLIP)), ("row", ("row", BIT, 1), 2), ("row", ("row", TRIT, 2), 1)),
    (("arms", (("a", "a", SAME), ("b", "b", CLIP))), one(a=BIT, b=BIT), one(a=BIT, b=TRIT)),
    (("arms", (("a", "b", CLIP), ("b", "a", SAME))), one(a=BIT, b=AB), one(a=AB, b=TRIT)),
    (("arms", (("a", "s", ("apart", 0, "b")), ("a", "t", SAME), ("b", "t", CLIP))), one(a=BIT, b=TRIT), one(s=AB, t=BIT)),
    (("arms", (("a", "t", SAME), ("b", "s", CLIP), ("a", "s", CLIP), ("b", "t", CLIP))), one(a=BIT, b=TRIT), one(s=TRIT, t=BIT)),
    (("arms", (("b", "t", CLIP), ("a", "t", SWAP))), one(a=BIT, b=TRIT), one(t=BIT)),
    (("arms", (("a", "t", CLIP), ("a", "s", SAME))), one(a=BIT), one(s=BIT, t=TRIT)),
    (("parts", ()), NONE, NONE), (("parts", ((0, 1, CLIP), (1, 0, SAME))), rec(BIT, AB), rec(AB, TRIT)),
    (("parts", ((0, 0, ("apart", 0, 0)), (1, 1, CLIP))), rec(BIT, TRIT), rec(BIT, BIT)),
    (("parts", ((1, 0, CLIP), (0, None, ("apart", 1, ())), (None, 1, ("apart", (), "b")))), rec(BIT, TRIT), rec(BIT, AB)),
    (("parts", ((None, 0, SAME), (0, 1, ("some", CLIP, 2)))), rec(TRIT), rec(NONE, opt(BIT))),
    (("parts", ((0, None, ("table", ((),) * 2, (1,))),)), rec(BIT), NONE),
    (("parts", ((None, 0, ("table", (1,), ((),) * 2)),)), NONE, rec(BIT)),
    (("parts", ((0, 0, ("parts", ((0, 1, CLIP), (1, 0, CLIP)))), (1, 1, ("opt", CLIP)))),
     rec(rec(BIT, TRIT), opt(BIT)), rec(rec(BIT, BIT), opt(TRIT))),
    (("opt", ("parts", ((0, 0, CLIP), (1, None, ("apart", 0, ()))))), opt(rec(TRIT, BIT)), opt(rec(BIT))),
    (("must", ("arms", (("a", "a", CLIP), ("b", "a", SAME))), ("a", 1)), opt(one(a=TRIT, b=BIT)), one(a=BIT)),
)


def relation(way, left, right):
    """All related pairs, put together row by row of the table in [10]."""
    word = way[0]
    lefts, rights = all_values(left), all_values(right)
    if word == "same":
        return {(a, a) for a in lefts}
    if word == "rank":
        return set(zip(lefts, rights))
    if word == "table":
        return set(zip(lefts, way[1])) | set(zip(way[2], rights))
    if word == "clip":
        return ({(a, min(rights, key=lambda b: abs(a - b))) for a in lefts}
                | {(min(lefts, key=lambda a: abs(a - b)), b) for b in rights})
    if word == "apart":
        return set(itertools.product(lefts, rights))
    if word == "some":
        return {(way[2], ())} | {(a, (y,)) for a, y in relation(way[1], left, right[1])}
    if word == "must":
        return {((), way[2])} | {((x,), b) for x, b in relation(way[1], left[1], right)}
    if word == "opt":
        return {((), ())} | {((x,), (y,)) for x, y in relation(way[1], left[1], right[1])}
    if word == "each":
        inner, c = relation(way[1], left[1], right[1]), min(left[2], right[2])
        return {(a, b) for a in lefts for b in rights
                if len(a[:c]) == len(b[:c]) and all(pair in inner for pair in zip(a[:c], b[:c]))}
    if word == "arms":
        return {((t, x), (u, y)) for t, u, inner in way[1]
                for x, y in relation(inner, dict(left[1])[t], dict(right[1])[u])}
    pairs = set(itertools.product(lefts, rights))
    for i, j, inner in way[1]:
        kinds = (NONE if i is None else left[1][i][1], NONE if j is None else right[1][j][1])
        told = relation(inner, *kinds)
        pairs = {(a, b) for a, b in pairs if (() if i is None else a[i], () if j is None else b[j]) in told}
    return pairs


class Led(unittest.TestCase):

    def judge(self, way, left, right, *rows):
        """Each row is a, b (None for none) and what is led."""
        self.assertIs(fits(way, left, right), True)
        for a, b, value in rows:
            with self.subTest(way=way, left=left, right=right, a=a, b=b):
                self.assertEqual(repr(led(way, left, right, a, b)), repr(value))
                if b is None:
                    self.assertEqual(repr(led(way, left, right, a)), repr(value))
                self.assertEqual(repr(led(way, left, right, a, b=b)), repr(value))

    def test_same_and_rank(self):
        self.judge(SAME, TRIT, TRIT, (0, None, 0), (2, None, 2), (1, 0, 1), (1, 1, 1))
        self.judge(RANK, TRIT, num(7, 9), (0, None, 7), (2, None, 9), (1, 7, 8), (1, 8, 8))
        self.judge(RANK, opt(AB), TRIT, ((), None, 0), (("a",), None, 1), (("b",), 0, 2))
        self.judge(RANK, TRIT, opt(AB), (0, None, ()), (2, None, ("b",)), (1, (), ("a",)), (0, ("b",), ()))

    def test_table(self):
        way = ("table", (7, 9), (1, 0, 0))
        self.judge(way, BIT, num(7, 9), (0, None, 7), (1, None, 9), (0, 7, 7), (0, 8, 8), (0, 9, 9), (1, 7, 7), (1, 8, 9), (1, 9, 9))
        way = ("table", ((), (), (1,)), (0, 1, 1))
        self.judge(way, TRIT, opt(BIT), (0, None, ()), (2, None, (1,)), (0, (), ()), (0, (0,), ()), (1, (0,), (0,)), (1, (1,), (1,)),
                   (2, (), (1,)), (2, (0,), (1,)), (2, (1,), (1,)))

    def test_clip(self):
        self.judge(CLIP, TRIT, FIVE, (0, None, 0), (2, None, 2), (2, 4, 4), (2, 5, 5), (2, 3, 3), (2, 2, 2), (2, 1, 2), (1, 4, 1),
                   (0, 5, 0), (1, 1, 1))
        self.judge(CLIP, FIVE, TRIT, (5, None, 2), (4, 2, 2), (4, 0, 2), (1, 2, 1), (2, 2, 2))
        self.judge(CLIP, num(1, 3), num(-2, 6), (1, None, 1), (3, None, 3), (1, -2, -2), (1, 0, 0), (1, 1, 1), (1, 2, 1), (1, 6, 1),
                   (3, 6, 6), (3, 4, 4), (3, 3, 3), (3, 2, 3), (3, -2, 3), (2, 6, 2), (2, -2, 2))
        self.judge(CLIP, num(-2, 6), num(1, 3), (-2, None, 1), (6, None, 3), (0, 1, 1), (0, 3, 1), (5, 1, 3), (2, 3, 2))
        self.judge(CLIP, BIT, num(5, 6), (0, None, 5), (1, None, 5), (0, 6, 5), (1, 6, 6), (1, 5, 5), (0, 5, 5))
        self.judge(CLIP, num(5, 6), BIT, (5, None, 1), (6, None, 1), (5, 0, 0), (6, 0, 1), (6, 1, 1))

    def test_apart(self):
        self.judge(("apart", 1, "b"), BIT, AB, (0, None, "b"), (1, None, "b"), (0, "a", "a"), (1, "b", "b"))
        self.judge(("apart", 1, (0,)), BIT, opt(BIT), (0, None, (0,)), (0, (), ()), (1, (1,), (1,)))

    def test_some(self):
        self.judge(("some", SAME, 1), TRIT, opt(TRIT), (0, None, (0,)), (1, None, (1,)), (1, (), ()), (0, (), (0,)), (2, (), (2,)),
                   (1, (1,), (1,)), (1, (0,), (1,)))
        self.judge(("some", CLIP, 0), TRIT, opt(FIVE), (2, (5,), (5,)), (1, (5,), (1,)), (2, None, (2,)), (0, (), ()), (2, (), (2,)))
        self.judge(("some", ("opt", CLIP), ()), opt(TRIT), opt(opt(FIVE)), ((), None, ((),)), ((), (), ()), ((), ((),), ((),)),
                   ((), ((5,),), ((),)), ((2,), ((5,),), ((5,),)), ((2,), ((),), ((2,),)), ((2,), (), ((2,),)))
        inner = ("parts", ((0, 0, SAME), (None, 1, ("apart", (), 1))))
        self.judge(("some", inner, (0,)), rec(BIT), opt(rec(BIT, TRIT)), ((0,), None, ((0, 1),)), ((0,), ((1, 2),), ((0, 2),)),
                   ((1,), (), ((1, 1),)), ((0,), (), ()), ((1,), ((1, 0),), ((1, 0),)))

    def test_must(self):
        self.judge(("must", SAME, 1), opt(TRIT), TRIT, ((), None, 1), ((2,), None, 2), ((), 1, 1), ((), 0, 1), ((0,), 2, 0), ((2,), 2, 2))
        self.judge(("must", CLIP, 0), opt(TRIT), FIVE, ((2,), 5, 5), ((1,), 5, 1), ((), 5, 0), ((2,), None, 2), ((), 0, 0))
        inner = ("parts", ((0, 0, SAME), (None, 1, ("apart", (), 1))))
        self.judge(("must", inner, (1, 0)), opt(rec(BIT)), rec(BIT, TRIT), ((), None, (1, 0)), ((), (1, 2), (1, 0)),
                   (((0,),), (1, 2), (0, 2)), (((0,),), None, (0, 1)), (((1,),), (1, 0), (1, 0)))
        self.judge(("must", ("opt", SAME), ()), opt(opt(BIT)), opt(BIT), ((), None, ()), (((),), None, ()), ((), (1,), ()),
                   (((1,),), (), (1,)), (((),), (), ()))

    def test_opt(self):
        self.judge(("opt", CLIP), opt(TRIT), opt(FIVE), ((), None, ()), ((), (), ()), ((), (3,), ()), ((2,), None, (2,)), ((2,), (), (2,)),
                   ((2,), (4,), (4,)), ((1,), (4,), (1,)))
        self.judge(("opt", ("opt", ("apart", 0, 1))), opt(opt(BIT)), opt(opt(TRIT)), (((),), ((2,),), ((),)), (((0,),), ((2,),), ((2,),)),
                   (((0,),), ((),), ((1,),)), (((0,),), (), ((1,),)), (((0,),), None, ((1,),)))

    def test_each(self):
        self.judge(("each", SAME), ("row", FIVE, 2), ("row", FIVE, 4), ((3, 1), (3, 2, 5), (3, 1, 5)), ((3, 1), (3, 2, 5, 4), (3, 1, 5, 4)),
                   ((3,), (3, 2, 5), (3,)), ((), (3, 2, 5), ()), ((3, 1), (), (3, 1)), ((3, 1), None, (3, 1)), ((3, 1), (5,), (3, 1)),
                   ((3, 1), (3, 1), (3, 1)), ((), None, ()), ((), (), ()))
        self.judge(("each", SAME), ("row", FIVE, 4), ("row", FIVE, 2), ((1, 2, 3, 4), None, (1, 2)), ((1, 2, 3, 4), (5, 5), (1, 2)),
                   ((1,), (5, 5), (1,)), ((1, 2), (5, 5), (1, 2)), ((), (5, 5), ()), ((1, 2, 3), (5,), (1, 2)))
        self.judge(("each", CLIP), ("row", BIT, 3), ("row", FIVE, 3), ((1, 0, 1), (5, 5, 5), (5, 0, 5)), ((1, 1, 1), (4,), (4, 1, 1)),
                   ((1,), (4, 3, 2), (4,)), ((0, 1), (4, 3, 2), (0, 3)), ((1, 1), None, (1, 1)))
        self.judge(("each", ("apart", 0, 2)), ("row", BIT, 2), ("row", TRIT, 4), ((0, 0), (1,), (1, 2)), ((0, 0), (1, 0, 1, 0), (1, 0, 1, 0)),
                   ((0,), (1, 0, 1, 0), (1,)), ((0, 0), None, (2, 2)))
        self.judge(("each", ("opt", SAME)), ("row", opt(BIT), 1), ("row", opt(BIT), 2), (((),), ((), (1,)), ((), (1,))),
                   (((1,),), ((), ()), ((1,), ())), ((), ((), ()), ()))

    def test_arms(self):
        way = ("arms", (("a", "s", ("apart", 0, "b")), ("a", "t", SAME), ("b", "t", CLIP)))
        left, right = one(a=BIT, b=TRIT), one(s=AB, t=BIT)
        self.judge(way, left, right, (("a", 1), None, ("s", "b")), (("a", 1), ("s", "a"), ("s", "a")), (("a", 1), ("t", 0), ("t", 1)),
                   (("a", 1), ("t", 1), ("t", 1)), (("b", 2), None, ("t", 1)), (("b", 2), ("s", "a"), ("t", 1)),
                   (("b", 2), ("t", 1), ("t", 1)), (("b", 0), ("t", 1), ("t", 0)))
        way = ("arms", (("a", "t", ("apart", 0, 1)), ("b", "s", ("apart", 0, "b")), ("b", "t", ("apart", 0, 0)), ("c", "s", ("apart", 0, "a"))))
        left = one(a=BIT, b=BIT, c=BIT)
        self.judge(way, left, right, (("a", 0), ("s", "a"), ("t", 1)), (("a", 0), ("t", 0), ("t", 0)), (("b", 0), None, ("s", "b")),
                   (("b", 0), ("t", 1), ("t", 1)), (("b", 0), ("s", "a"), ("s", "a")), (("c", 0), ("t", 1), ("s", "a")),
                   (("c", 0), None, ("s", "a")))
        self.judge(("arms", (("a", "t", CLIP), ("a", "s", SAME))), one(a=BIT), one(s=BIT, t=TRIT), (("a", 1), None, ("t", 1)),
                   (("a", 1), ("s", 0), ("s", 1)), (("a", 1), ("t", 2), ("t", 2)), (("a", 0), ("t", 2), ("t", 0)))

    def test_parts(self):
        way = ("parts", ((1, 0, CLIP), (0, None, ("apart", 1, ())), (None, 1, ("apart", (), "b"))))
        left, right = rec(BIT, TRIT), rec(FIVE, AB)
        self.judge(way, left, right, ((0, 2), None, (2, "b")), ((0, 2), (5, "a"), (5, "a")), ((1, 1), (5, "a"), (1, "a")),
                   ((0, 0), (0, "b"), (0, "b")))
        self.judge(("parts", ((0, 1, SAME), (1, 0, ("must", SAME, 4)))), rec(BIT, opt(FIVE)), rec(FIVE, BIT),
                   ((1, ()), None, (4, 1)), ((1, (3,)), (0, 0), (3, 1)), ((0, ()), (2, 1), (4, 0)))
        self.judge(("parts", ((None, 0, SAME), (0, 1, ("some", CLIP, 2)))), rec(TRIT), rec(NONE, opt(BIT)), ((2,), None, ((), (1,))),
                   ((2,), ((), ()), ((), ())), ((0,), ((), ()), ((), (0,))))
        self.judge(("parts", ()), NONE, NONE, ((), None, ()), ((), (), ()))


class Related(unittest.TestCase):

    def judge(self, way, left, right, pairs):
        told = set(pairs)
        for a in all_values(left):
            for b in all_values(right):
                self.assertIs(related(way, left, right, a, b), (a, b) in told, (way, a, b))

    def test_by_hand(self):
        self.judge(SAME, BIT, BIT, ((0, 0), (1, 1)))
        self.judge(RANK, opt(BIT), TRIT, (((), 0), ((0,), 1), ((1,), 2)))
        self.judge(("table", (7, 9), (1, 0, 0)), BIT, num(7, 9), ((0, 7), (1, 9), (1, 7), (0, 8), (0, 9)))
        self.judge(CLIP, num(1, 3), num(0, 5), ((1, 0), (1, 1), (2, 2), (3, 3), (3, 4), (3, 5)))
        self.judge(CLIP, BIT, num(5, 6), ((0, 5), (1, 5), (1, 6)))
        self.judge(("apart", 0, "a"), BIT, AB, ((0, "a"), (0, "b"), (1, "a"), (1, "b")))
        self.judge(("some", SAME, 1), TRIT, opt(TRIT), ((0, (0,)), (1, (1,)), (2, (2,)), (1, ())))
        self.judge(("must", SAME, 1), opt(TRIT), TRIT, (((0,), 0), ((1,), 1), ((2,), 2), ((), 1)))
        self.judge(("opt", SAME), opt(BIT), opt(BIT), (((), ()), ((0,), (0,)), ((1,), (1,))))
        self.judge(("each", SAME), ("row", BIT, 1), ("row", BIT, 2), (((), ()), ((0,), (0,)), ((1,), (1,)), ((0,), (0, 0)), ((0,), (0, 1)),
                                                                     ((1,), (1, 0)), ((1,), (1, 1))))
        self.judge(("arms", (("a", "s", SAME), ("b", "s", SWAP), ("b", "t", RANK))), one(a=BIT, b=BIT), one(s=BIT, t=AB),
                   ((("a", 0), ("s", 0)), (("a", 1), ("s", 1)), (("b", 0), ("s", 1)), (("b", 1), ("s", 0)), (("b", 0), ("t", "a")),
                    (("b", 1), ("t", "b"))))
        self.judge(("parts", ((0, 1, SAME), (1, 0, RANK))), rec(BIT, BIT), rec(AB, BIT),
                   (((0, 0), ("a", 0)), ((0, 1), ("b", 0)), ((1, 0), ("a", 1)), ((1, 1), ("b", 1))))
        self.judge(("parts", ((0, None, ("table", ((), ()), (1,))), (None, 0, ("table", ("b",), ((), ()))))), rec(BIT), rec(AB),
                   (((0,), ("a",)), ((0,), ("b",)), ((1,), ("a",)), ((1,), ("b",))))

    def test_catalog(self):
        for way, left, right in CATALOG:
            with self.subTest(way=way):
                self.judge(way, left, right, relation(way, left, right))


class Promises(unittest.TestCase):
    """What [15] promises, for all values of all ways of the catalog."""

    def test_they_fit(self):
        for way, left, right in CATALOG:
            with self.subTest(way=way):
                self.assertIs(fits(way, left, right), True)
                self.assertIs(fits(mirror(way), right, left), True)
                self.assertEqual(mirror(mirror(way)), way)

    def test_leading(self):
        for way, left, right in CATALOG:
            for told, a_kind, b_kind in ((way, left, right), (mirror(way), right, left)):
                with self.subTest(way=told):
                    for a in all_values(a_kind):
                        for b in [None] + all_values(b_kind):
                            value = led(told, a_kind, b_kind, a, b)
                            self.assertIs(is_value(b_kind, value), True, (a, b))
                            self.assertIs(related(told, a_kind, b_kind, a, value), True, (a, b))
                            self.assertEqual(led(told, a_kind, b_kind, a, value), value)
                            if b is not None and related(told, a_kind, b_kind, a, b):
                                self.assertEqual(repr(value), repr(b), (a, b))

    def test_mirrors(self):
        for way, left, right in CATALOG:
            with self.subTest(way=way):
                for a in all_values(left):
                    for b in all_values(right):
                        self.assertIs(related(mirror(way), right, left, b, a), related(way, left, right, a, b))

    def test_large_kinds(self):
        wide = ("rec", tuple((name, num(1, 1000)) for name in "abcdef"))
        last = (1000,) * 6
        self.assertEqual(led(SAME, wide, wide, last), last)
        other = ("rec", (("a", ("rec", tuple((name, num(1, 1000)) for name in "abc"))),
                         ("b", ("rec", tuple((name, num(0, 999)) for name in "abc")))))
        self.assertEqual(led(RANK, wide, other, (1, 2, 3, 4, 5, 6)), ((1, 2, 3), (3, 4, 5)))
        self.assertIs(related(RANK, wide, other, last, ((1000,) * 3, (999,) * 3)), True)
        self.assertIs(related(RANK, wide, other, last, ((1000,) * 3, (999, 999, 998))), False)


if __name__ == "__main__":
    unittest.main()
