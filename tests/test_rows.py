"""Deeds and rows of bundles: promise [25]."""

import random
import unittest

from small import LINE, Search, house_of, lets_in, part_in, parts_in, some_houses, state_behind, then, unions_of

from telltrove.errors import TooLarge
from telltrove.forms import leaves_of
from telltrove.letting import is_let
from telltrove.rows import deeds_of, played, whole_row

WHOLE = (("n",), ("m",), ("k",))
RULED = house_of(
    "open a { n : num 0 .. 2 ; o : opt num 0 .. 1 ; t : num 0 .. 3 ; rule not n = 1 ; rule t <= 2 and not t = 0 ; rule has o ; } "
    "add b from a { n : num 0 .. 2 ; z : num 0 .. 1 ; step n to n by same ; step o , t to z by apart [ [ ] , 0 ] 1 ; } "
    "retire a ; add c from b { z : num 0 .. 1 ; step z to z by same ; step n to none by apart 2 [ ] ; } retire b ;")
LARGE = ("open a { n : num 0 .. 2 ; m : num 1 .. 401 ; } "
         "add b from a { n : num 0 .. 2 ; step n to n by same ; step m to none by apart 5 [ ] ; } "
         "add c from b { n : num 0 .. 2 ; p : num 1 .. 20 ; q : num 1 .. 21 ; rule p <= q + 30 ; step n to n by same ; "
         "step none to p by apart [ ] 5 ; step none to q by apart [ ] 5 ; } retire a ; retire c ;")


class Deeds(unittest.TestCase):

    def test_by_hand(self):
        self.assertEqual(deeds_of(LINE, 0, WHOLE[:1]), ((0, 0, (0,)), (0, 0, (1,)), (0, 0, (2,))))
        self.assertEqual(deeds_of(LINE, 1, WHOLE[:2]), ((1, 0, (0,)), (1, 0, (1,)), (1, 0, (2,)), (1, 1, (0,)), (1, 1, (1,))))
        self.assertEqual(deeds_of(LINE, 3, WHOLE), tuple((3, *deed[1:]) for deed in deeds_of(LINE, 1, WHOLE[:2])))
        self.assertEqual(len(deeds_of(LINE, 2, WHOLE)), 8)
        self.assertEqual(deeds_of(LINE, 2, ((), (), ())), ((2, 0, ()), (2, 1, ()), (2, 2, ())))
        self.assertEqual(deeds_of(LINE, 3, ((), (), ())), ((3, 0, ()), (3, 1, ())))
        self.assertEqual(deeds_of(RULED, 0, (("n",),)), ((0, 0, (0,)), (0, 0, (2,))))
        self.assertEqual(deeds_of(RULED, 1, (("o", "t"), ("z",))),
                         tuple((1, 0, ((o,), t)) for o in (0, 1) for t in (1, 2)) + ((1, 1, (0,)), (1, 1, (1,))))
        self.assertEqual(deeds_of(RULED, 2, (("n",), ("n",))), tuple((2, 1, (n,)) for n in range(3)))
        self.assertEqual(deeds_of(RULED, 4, (("n",), ("n",), ())), ((4, 2, ()),))

    def test_no_let_part(self):
        house = house_of("open a { n : num 0 .. 1 ; m : num 0 .. 1 ; rule n = 0 ; rule n = 1 ; }")
        self.assertEqual(deeds_of(house, 0, (("n",),)), ())
        self.assertEqual(deeds_of(house, 0, (("m",),)), ((0, 0, (0,)), (0, 0, (1,))))
        self.assertEqual(deeds_of(house, 0, ((),)), ((0, 0, ()),))

    def test_small_houses(self):
        for house in some_houses(60, fields=3, rules=(0, 1, 2), least_lets=False):
            for epoch in range(len(house.events)):
                for bundle in unions_of(house, epoch):
                    own = [(epoch, version, part) for version in house.living(epoch) for part in lets_in(house, bundle, version)]
                    self.assertEqual(deeds_of(house, epoch, bundle), tuple(own))
                    self.assertEqual(own, sorted(own))

    def test_400_and_401(self):
        house = house_of(LARGE)
        joint = (("n",), ("n",), ("n",))
        self.assertEqual(len(deeds_of(house, 2, joint)), 9)
        for epoch, bundle in ((0, (("m",),)), (1, (("m",), ())), (1, (("n", "m"), ("n",))), (2, (("m",), (), ())),
                              (2, ((), (), ("p", "q"))), (3, ((), (), ("p", "q")))):
            with self.assertRaises(TooLarge) as caught:
                deeds_of(house, epoch, bundle)
            self.assertEqual(caught.exception.part, "part")
        # Retired versions have no deeds, and so none too many.
        self.assertEqual(deeds_of(house, 3, (("m",), (), ())), ((3, 1, ()), (3, 2, ())))
        self.assertEqual(deeds_of(house, 4, (("n", "m"), ("n",), ("n", "p", "q"))), ((4, 1, (0,)), (4, 1, (1,)), (4, 1, (2,))))
        fits = house_of("open a { p : num 1 .. 20 ; q : num 1 .. 20 ; r : num 1 .. 2 ; }")
        self.assertEqual(len(deeds_of(fits, 0, (("p", "q"),))), 400)
        with self.assertRaises(TooLarge):
            deeds_of(fits, 0, (("p", "q", "r"),))


class Played(unittest.TestCase):

    def test_no_deed(self):
        for epoch in range(4):
            self.assertIsNone(played(LINE, epoch, then(LINE, epoch, WHOLE), ()))
            self.assertIsNone(played(LINE, epoch, ((),) * LINE.present(epoch), ()))

    def test_by_hand(self):
        self.assertEqual(played(LINE, 0, WHOLE[:1], ((0, 0, (2,)),)), ((2,),))
        self.assertEqual(played(LINE, 1, WHOLE[:2], ((0, 0, (2,)),)), ((2,), (1,)))
        self.assertEqual(played(LINE, 3, WHOLE, ((0, 0, (2,)),)), ((2,), (1,), (1,)))
        self.assertEqual(played(LINE, 2, WHOLE, ((0, 0, (2,)), (2, 2, (2,)))), ((2,), (1,), (2,)))
        self.assertEqual(played(LINE, 3, WHOLE, ((0, 0, (2,)), (2, 2, (2,)), (3, 1, (1,)))), ((2,), (1,), (2,)))
        self.assertEqual(played(LINE, 3, WHOLE, ((0, 0, (2,)), (2, 2, (2,)), (3, 1, (0,)), (3, 1, (1,)))), ((1,), (1,), (1,)))
        self.assertEqual(played(LINE, 3, WHOLE, ((2, 2, (2,)),)), ((1,), (1,), (2,)))
        self.assertEqual(played(LINE, 3, WHOLE, ((3, 0, (2,)),)), ((2,), (1,), (1,)))
        self.assertEqual(played(LINE, 3, ((), (), ()), ((0, 0, ()), (2, 1, ()))), ((), (), ()))

    def test_the_epoch_of_a_deed_matters(self):
        """A put ahead of an add leaves what the add leads with none; one behind it, what its way keeps."""
        house = house_of("open a { n : num 0 .. 1 ; } add b from a { m : num 0 .. 3 ; step n to m by table [ 1 , 2 ] [ 0 , 0 , 1 , 1 ] ; } "
                         "add c from b { k : num 0 .. 1 ; step m to k by apart 3 1 ; }")
        bundle = (("n",), ("m",), ("k",))
        self.assertEqual(played(house, 2, bundle, ((0, 0, (0,)), (1, 1, (0,)), (1, 0, (0,)))), ((0,), (0,), (1,)))
        self.assertEqual(played(house, 2, bundle, ((0, 0, (0,)), (1, 0, (0,)))), ((0,), (1,), (1,)))
        self.assertEqual(played(house, 2, bundle, ((0, 0, (0,)), (2, 2, (0,)))), ((0,), (1,), (0,)))
        self.assertEqual(played(house, 2, bundle, ((2, 2, (0,)),)), ((1,), (3,), (0,)))

    def test_small_houses(self):
        rng = random.Random(3)
        for house in some_houses(50):
            for epoch in range(len(house.events)):
                for bundle in unions_of(house, epoch):
                    search = Search(house, epoch, bundle)
                    for _ in range(5):
                        row = some_row(rng, search)
                        self.assertEqual(played(house, epoch, bundle, row), search.played(row))


def some_row(rng, search, most=4):
    epochs = sorted(rng.randint(0, search.epoch) for _ in range(rng.randint(0, most)))
    return tuple(rng.choice(search.deeds(epoch)) for epoch in epochs)


class WholeRows(unittest.TestCase):

    def test_by_hand(self):
        self.assertEqual(whole_row(LINE, WHOLE, ()), ())
        self.assertEqual(whole_row(LINE, WHOLE, ((0, 0, (2,)), (2, 2, (1,)))), ((0, 0, (2,)), (2, 2, (1,))))
        self.assertEqual(whole_row(LINE, ((), (), ()), ((0, 0, ()), (2, 2, ()))), ((0, 0, (0,)), (2, 2, (0,))))
        self.assertEqual(whole_row(RULED, (("n",),), ((0, 0, (2,)),)), ((0, 0, (2, (0,), 1)),))
        self.assertEqual(whole_row(RULED, (("n",), ("n",)), ((0, 0, (2,)), (1, 1, (1,)))), ((0, 0, (2, (0,), 1)), (1, 1, (1, 0))))
        self.assertEqual(whole_row(RULED, (("o", "t"), ("z",), ("z",)), ((1, 0, ((1,), 2)), (3, 1, (1,)), (3, 2, (1,)), (4, 2, (0,)))),
                         ((1, 0, (0, (1,), 2)), (3, 1, (0, 1)), (3, 2, (1,)), (4, 2, (0,))))
        self.assertEqual(whole_row(RULED, (("n", "o", "t"), ("n", "z")), ((1, 0, (2, (1,), 2)), (1, 1, (2, 1)))),
                         ((1, 0, (2, (1,), 2)), (1, 1, (2, 1))))

    def test_bundles_of_any_epoch_of_the_row(self):
        for bundle in ((("n",),), (("n",), ("n",)), (("n",), ("n",), ())):
            self.assertEqual(whole_row(RULED, bundle, ((0, 0, (2,)),)), ((0, 0, (2, (0,), 1)),))

    def test_too_large(self):
        house = house_of(LARGE)
        joint = (("n",), ("n",), ("n",))
        self.assertEqual(whole_row(house, joint, ()), ())
        self.assertEqual(whole_row(house, joint, ((1, 1, (2,)), (4, 1, (0,)))), ((1, 1, (2,)), (4, 1, (0,))))
        for row in (((0, 0, (1,)),), ((1, 1, (1,)), (2, 2, (2,))), ((2, 2, (0,)), (2, 1, (1,))), ((0, 0, (0,)), (4, 1, (1,)))):
            with self.assertRaises(TooLarge) as caught:
                whole_row(house, joint, row)
            self.assertEqual(caught.exception.part, "part")
        # The group that is too large is in the bundle.
        with self.assertRaises(TooLarge):
            whole_row(house, (("m",), (), ()), ((0, 0, (7,)),))
        with self.assertRaises(TooLarge):
            whole_row(house, ((), (), ("p", "q")), ((2, 2, (7, 7)),))
        # Groups that are small one by one are filled in, whatever their product.
        fits = house_of("open a { p : num 1 .. 20 ; q : num 1 .. 20 ; r : num 1 .. 400 ; }")
        self.assertEqual(whole_row(fits, (("p", "q", "r"),), ((0, 0, (20, 20, 400)),)), ((0, 0, (20, 20, 400)),))
        self.assertEqual(whole_row(fits, (("q",),), ((0, 0, (20,)),)), ((0, 0, (1, 20, 1)),))

    def test_done_in_a_hall(self):
        rng = random.Random(4)
        for house in some_houses(50, fields=3, rules=(0, 1)):
            for epoch in range(len(house.events)):
                for bundle in unions_of(house, epoch, 4):
                    search = Search(house, epoch, bundle)
                    if not all(search.lets[version] for version in range(len(bundle))):
                        continue
                    row = some_row(rng, search)
                    wholes = whole_row(house, bundle, row)
                    self.assertEqual([deed[:2] for deed in wholes], [deed[:2] for deed in row])
                    for many in range(len(row) + 1):
                        told = state_behind(house, epoch, wholes[:many])
                        self.assertEqual(parts_in(house, bundle, told), played(house, epoch, bundle, row[:many]))
                        for _, version, whole in wholes:
                            self.assertIs(is_let(house.forms[version], whole), True)

    def test_the_least_parts_elsewhere(self):
        for house in some_houses(40, fields=3, rules=(1, 2)):
            last = len(house.events) - 1
            for bundle in unions_of(house, last, 4):
                for version, paths in enumerate(bundle):
                    epoch = [version in house.living(at) for at in range(last + 1)].index(True)
                    others = [path for path, _ in leaves_of(house.forms[version]) if path not in paths]
                    rest = ((),) * version + (tuple(others),)
                    for part in lets_in(house, bundle, version)[:5]:
                        (_, _, whole), = whole_row(house, bundle, ((epoch, version, part),))
                        self.assertEqual(part_in(house, bundle, version, whole), part)
                        self.assertEqual(part_in(house, rest, version, whole), lets_in(house, rest, version)[0])


if __name__ == "__main__":
    unittest.main()
