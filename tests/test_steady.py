"""Steady ways and what ways lose: promises [2] and [16]."""

import itertools
import unittest

from telltrove.errors import TooLarge
from telltrove.kinds import size_of, value_at
from telltrove.leading import led
from telltrove.steady import lost_pair, unsteady
from telltrove.ways import fits, mirror

BIT = ("num", 0, 1)
TRIT = ("num", 0, 2)
AB = ("pick", ("a", "b"))
SAME = ("same",)
CLIP = ("clip",)


def size(many):
    return ("num", 1, many)


def opt(kind):
    return ("opt", kind)


CATALOG = (
    (SAME, TRIT, TRIT), (("rank",), TRIT, opt(BIT)), (CLIP, BIT, TRIT), (CLIP, TRIT, BIT), (CLIP, size(3), ("num", 0, 5)),
    (CLIP, ("num", 5, 6), BIT), (("apart", 0, "b"), BIT, AB), (("table", (7, 9), (1, 0, 0)), BIT, ("num", 7, 9)),
    (("table", (1, 0), (1, 0)), BIT, BIT), (("table", ("a", "a", "b"), (2, 0)), TRIT, AB), (("table", (0, 0), (1, 1)), BIT, BIT),
    (("some", SAME, 1), TRIT, opt(TRIT)), (("must", SAME, 1), opt(TRIT), TRIT), (("some", ("apart", 0, 0), 1), BIT, opt(TRIT)),
    (("must", ("apart", 0, 0), 1), opt(BIT), TRIT), (("opt", SAME), opt(BIT), opt(BIT)), (("opt", CLIP), opt(TRIT), opt(BIT)),
    (("opt", ("apart", 0, 0)), opt(BIT), opt(TRIT)), (("each", SAME), ("row", BIT, 1), ("row", BIT, 2)),
    (("each", ("apart", 1, 1)), ("row", BIT, 1), ("row", BIT, 2)), (("each", SAME), ("row", size(1), 4), ("row", size(1), 2)),
    (("arms", (("a", "s", ("apart", 0, 1)), ("a", "t", SAME), ("b", "t", CLIP))), ("one", (("a", BIT), ("b", TRIT))),
     ("one", (("s", TRIT), ("t", BIT)))),
    (("parts", ((0, 1, SAME), (1, 0, ("rank",)))), ("rec", (("a", BIT), ("b", BIT))), ("rec", (("a", AB), ("b", BIT)))),
    (("parts", ((0, 0, CLIP), (None, 1, ("apart", (), 0)))), ("rec", (("a", TRIT),)), ("rec", (("a", BIT), ("b", BIT)))),
)


class Steady(unittest.TestCase):

    def test_by_hand(self):
        self.assertEqual(unsteady(CLIP, BIT, TRIT), (2, 0, 1))
        self.assertIsNone(unsteady(CLIP, TRIT, BIT))
        self.assertEqual(unsteady(CLIP, ("num", 1, 2), ("num", 0, 3)), (0, 2, 1))
        self.assertIsNone(unsteady(SAME, TRIT, TRIT))
        self.assertIsNone(unsteady(("rank",), TRIT, opt(BIT)))
        self.assertIsNone(unsteady(("apart", 0, "b"), BIT, AB))
        self.assertEqual(unsteady(("some", SAME, 1), TRIT, opt(TRIT)), ((), 0, 1))
        self.assertEqual(unsteady(("opt", ("apart", 0, 0)), opt(BIT), opt(TRIT)), ((1,), (), (0,)))
        self.assertEqual(unsteady(("each", SAME), ("row", BIT, 1), ("row", BIT, 2)), ((0, 0), (), (0,)))
        self.assertIsNone(unsteady(("table", (1, 0), (1, 0)), BIT, BIT))
        self.assertEqual(unsteady(("table", (0, 0), (1, 1)), BIT, BIT), (1, 0, 1))

    def test_lost_by_hand(self):
        self.assertEqual(lost_pair(CLIP, ("num", 0, 3), BIT), (1, 2))
        self.assertEqual(lost_pair(CLIP, ("num", -2, 3), ("num", 0, 9)), (-2, -1))
        self.assertIsNone(lost_pair(CLIP, BIT, TRIT))
        self.assertIsNone(lost_pair(SAME, TRIT, TRIT))
        self.assertEqual(lost_pair(("apart", 0, "b"), BIT, AB), (0, 1))
        self.assertIsNone(lost_pair(("apart", 1, "b"), size(1), AB))
        self.assertEqual(lost_pair(("table", ("a", "b", "a"), (0, 1)), TRIT, AB), (0, 2))
        self.assertEqual(lost_pair(("table", ("b", "a", "a"), (0, 1)), TRIT, AB), (1, 2))
        self.assertEqual(lost_pair(("table", (1, 2, 2, 1), (0, 0)), size(4), size(2)), (1, 4))
        self.assertEqual(lost_pair(("must", SAME, 1), opt(TRIT), TRIT), ((), (1,)))
        self.assertIsNone(lost_pair(("some", SAME, 1), TRIT, opt(TRIT)))
        self.assertEqual(lost_pair(("each", SAME), ("row", size(1), 4), ("row", size(1), 2)), ((1, 1), (1, 1, 1)))

    def test_catalog(self):
        found = {True: 0, False: 0}
        for way, left, right in CATALOG:
            for told, one, two in ((way, left, right), (mirror(way), right, left)):
                with self.subTest(way=told):
                    self.assertIs(fits(told, one, two), True)
                    lefts = [value_at(one, rank) for rank in range(size_of(one))]
                    rights = [value_at(two, rank) for rank in range(size_of(two))]
                    broken = [(b, a, c) for b in rights for a in lefts for c in lefts
                              if led(told, one, two, c, led(told, one, two, a, b)) != led(told, one, two, c, b)]
                    lost = [(a, c) for a, c in itertools.combinations(lefts, 2) if led(told, one, two, a) == led(told, one, two, c)]
                    found[bool(broken)] += 1
                    found[bool(lost)] += 1
                    self.assertEqual(unsteady(told, one, two), min(broken) if broken else None)
                    self.assertEqual(lost_pair(told, one, two), min(lost) if lost else None)
        self.assertGreater(min(found.values()), 10)

    def test_sizes(self):
        self.assertIsNone(unsteady(SAME, size(12), size(12)))
        self.assertIsNone(lost_pair(SAME, size(12), size(12)))
        self.assertEqual(lost_pair(CLIP, size(12), size(11)), (11, 12))
        self.assertEqual(unsteady(CLIP, size(11), size(12)), (12, 1, 11))
        for way, left, right in ((SAME, size(13), size(13)), (CLIP, size(13), size(1)), (CLIP, size(1), size(13)),
                                 (CLIP, size(12), size(13)), (CLIP, size(13), size(12)), (("apart", 1, 1), size(1), size(1001)),
                                 (("rank",), ("row", BIT, 3), size(15))):
            for function in (unsteady, lost_pair):
                with self.assertRaises(TooLarge) as caught:
                    function(way, left, right)
                self.assertEqual(caught.exception.part, "way")


if __name__ == "__main__":
    unittest.main()
