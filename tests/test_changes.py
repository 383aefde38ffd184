"""Changes between forms: promises [2] and [17]."""

import itertools
import unittest

from telltrove.changes import led_flat, mirrored, related_flats, side_kind
from telltrove.kinds import size_of, value_at

BIT = ("num", 0, 1)
TRIT = ("num", 0, 2)
AB = ("pick", ("a", "b"))
SAME = ("same",)
CLIP = ("clip",)


def form(*fields):
    return ("form", fields, ())


def rec(*kinds):
    return ("rec", tuple(zip("abcdef", kinds)))


def flats_of(kinds):
    return list(itertools.product(*[[value_at(kind, rank) for rank in range(size_of(kind))] for kind in kinds]))


LEFT = form(("n", BIT), ("h", rec(TRIT, ("opt", BIT))), ("s", AB))
RIGHT = form(("k", ("num", 0, 3)), ("g", rec(AB, BIT)), ("t", ("opt", BIT)))
# Sides of one path, of several ones in another order than that of the leaves, and of none.
CHANGE = (
    (("h.b", "h.a"), ("t", "k"), ("parts", ((0, 0, SAME), (1, 1, CLIP)))),
    (("s",), ("g.a",), ("table", ("b", "a"), ("b", "a"))),
    (("n",), (), ("apart", 1, ())),
    ((), ("g.b",), ("apart", (), 1)),
)


class Sides(unittest.TestCase):

    def test_kinds(self):
        self.assertEqual(side_kind(LEFT, ("n",)), BIT)
        self.assertEqual(side_kind(LEFT, ("h.b",)), ("opt", BIT))
        self.assertEqual(side_kind(LEFT, ()), ("rec", ()))
        self.assertEqual(side_kind(LEFT, ("s", "n")), ("rec", (("a", AB), ("b", BIT))))
        self.assertEqual(side_kind(LEFT, ("h.b", "h.a", "s", "n")),
                         ("rec", (("a", ("opt", BIT)), ("b", TRIT), ("c", AB), ("d", BIT))))
        self.assertEqual(side_kind(LEFT, ("n", "s", "h.a")), ("rec", (("a", BIT), ("b", AB), ("c", TRIT))))
        row = ("row", ("opt", ("opt", BIT)), 2)
        self.assertEqual(side_kind(form(("a", row), ("b", row)), ("b", "a")), rec(row, row))
        self.assertEqual(side_kind(form(("a", row), ("b", row)), ("b",)), row)


class Led(unittest.TestCase):

    def test_mirrored(self):
        self.assertEqual(mirrored(()), ())
        self.assertEqual(mirrored(CHANGE), (
            (("t", "k"), ("h.b", "h.a"), ("parts", ((0, 0, SAME), (1, 1, CLIP)))),
            (("g.a",), ("s",), ("table", ("b", "a"), ("b", "a"))),
            ((), ("n",), ("apart", (), 1)),
            (("g.b",), (), ("apart", 1, ())),
        ))
        self.assertEqual(mirrored(mirrored(CHANGE)), CHANGE)
        self.assertEqual(mirrored(((("a",), ("b",), ("some", ("table", (1,), (2,)), 3)),)),
                         ((("b",), ("a",), ("must", ("table", (2,), (1,)), 3)),))

    def test_forth(self):
        self.assertEqual(led_flat(LEFT, RIGHT, CHANGE, (0, 2, (1,), "a")), (2, "b", 1, (1,)))
        self.assertEqual(led_flat(LEFT, RIGHT, CHANGE, (0, 2, (1,), "a"), None), (2, "b", 1, (1,)))
        self.assertEqual(led_flat(LEFT, RIGHT, CHANGE, (1, 0, (), "b"), (3, "b", 0, (1,))), (0, "a", 0, ()))
        self.assertEqual(led_flat(LEFT, RIGHT, CHANGE, (1, 2, (0,), "b"), (3, "b", 0, (1,))), (3, "a", 0, (0,)))
        self.assertEqual(led_flat(LEFT, RIGHT, CHANGE, (1, 2, (0,), "b"), old=(1, "a", 1, (0,))), (2, "a", 1, (0,)))

    def test_back(self):
        back = mirrored(CHANGE)
        self.assertEqual(led_flat(RIGHT, LEFT, back, (3, "b", 0, (1,))), (1, 2, (1,), "a"))
        self.assertEqual(led_flat(RIGHT, LEFT, back, (3, "b", 0, ()), (0, 0, (1,), "a")), (0, 2, (), "a"))
        self.assertEqual(led_flat(RIGHT, LEFT, back, (1, "a", 0, (0,)), (0, 2, (0,), "b")), (0, 1, (0,), "b"))

    def test_every_other_old_flat(self):
        """Each step leads with the old values of its own rights."""
        for old in flats_of([("num", 0, 3), AB, BIT, ("opt", BIT)]):
            for flat in flats_of([BIT, TRIT, ("opt", BIT), AB]):
                k = old[0] if old[0] == flat[1] or (flat[1] == 2 and old[0] == 3) else flat[1]
                self.assertEqual(led_flat(LEFT, RIGHT, CHANGE, flat, old), (k, {"a": "b", "b": "a"}[flat[3]], old[2], flat[2]))

    def test_sides_of_one_and_of_several_paths(self):
        left = form(("p", rec(rec(BIT, TRIT))), ("q", ("row", BIT, 2)))
        right = form(("o", ("opt", rec(BIT, TRIT))), ("r", ("row", BIT, 2)))
        change = ((("p.a.a", "p.a.b"), ("o",), ("some", SAME, (1, 1))), (("q",), ("r",), SAME))
        self.assertEqual(led_flat(left, right, change, (0, 2, (1, 0))), (((0, 2),), (1, 0)))
        self.assertEqual(led_flat(left, right, change, (1, 1, ()), ((), (1,))), ((), ()))
        self.assertEqual(led_flat(left, right, change, (1, 2, ()), ((), (1,))), (((1, 2),), ()))
        self.assertEqual(led_flat(right, left, mirrored(change), ((), (1,))), (1, 1, (1,)))
        self.assertEqual(led_flat(right, left, mirrored(change), (((0, 2),), ()), (1, 1, (1,))), (0, 2, ()))

    def test_an_old_flat_of_no_leaves(self):
        empty = form(("e", ("rec", ())))
        self.assertEqual(led_flat(LEFT, empty, ((("n", "h.a", "h.b", "s"), (), ("apart", (0, 0, (), "a"), ())),), (0, 1, (), "a"), ()), ())
        self.assertEqual(led_flat(empty, empty, (), (), ()), ())
        self.assertEqual(led_flat(empty, empty, (), ()), ())
        change = (((), ("n", "h.a", "h.b", "s"), ("apart", (), (1, 2, (0,), "b"))),)
        self.assertEqual(led_flat(empty, LEFT, change, ()), (1, 2, (0,), "b"))
        self.assertEqual(led_flat(empty, LEFT, change, (), (0, 0, (), "a")), (0, 0, (), "a"))
        self.assertIs(related_flats(empty, LEFT, change, (), (0, 0, (), "a")), True)
        self.assertIs(related_flats(empty, empty, (), (), ()), True)

    def test_an_old_value_that_is_empty_is_there(self):
        left, right = form(("n", BIT)), form(("o", ("opt", BIT)))
        change = ((("n",), ("o",), ("some", SAME, 1)),)
        self.assertEqual(led_flat(left, right, change, (1,)), ((1,),))
        self.assertEqual(led_flat(left, right, change, (1,), ((),)), ((),))
        self.assertEqual(led_flat(left, right, change, (0,), ((),)), ((0,),))

    def test_related(self):
        for flat in flats_of([BIT, TRIT, ("opt", BIT), AB]):
            for other in flats_of([("num", 0, 3), AB, BIT, ("opt", BIT)]):
                told = flat[2] == other[3] and flat[3] != other[1] and (flat[1] == other[0] or (flat[1] == 2 and other[0] == 3))
                self.assertIs(related_flats(LEFT, RIGHT, CHANGE, flat, other), told)
                self.assertIs(related_flats(RIGHT, LEFT, mirrored(CHANGE), other, flat), told)
                led = led_flat(LEFT, RIGHT, CHANGE, flat, other)
                self.assertIs(related_flats(LEFT, RIGHT, CHANGE, flat, led), True)
                if told:
                    self.assertEqual(led, other)


if __name__ == "__main__":
    unittest.main()
