"""Reached states and their least rows: promises [26] and [67]."""

import unittest

from small import LINE, Search, house_of, some_houses, unions_of

from telltrove.errors import TooLarge
from telltrove.reach import reached
from telltrove.rows import played
from telltrove.strands import strands_of

WHOLE = (("n",), ("m",), ("k",))


def large(test, told, *arguments):
    with test.assertRaises(TooLarge) as caught:
        reached(*arguments)
    test.assertEqual(caught.exception.part, told)


class ByHand(unittest.TestCase):

    def test_the_line(self):
        self.assertEqual(reached(LINE, 0, WHOLE[:1]), tuple((((n,),), ((0, 0, (n,)),)) for n in range(3)))
        self.assertEqual(reached(LINE, 1, WHOLE[:2]), ((((0,), (0,)), ((0, 0, (0,)),)), (((1,), (1,)), ((0, 0, (1,)),)),
                                                       (((2,), (1,)), ((0, 0, (2,)),))))
        told = ((((0,), (0,), (0,)), ((0, 0, (0,)),)), (((1,), (1,), (1,)), ((0, 0, (1,)),)),
                (((1,), (1,), (2,)), ((2, 2, (2,)),)), (((2,), (1,), (1,)), ((0, 0, (2,)),)),
                (((2,), (1,), (2,)), ((0, 0, (2,)), (2, 2, (2,)))))
        self.assertEqual(reached(LINE, 2, WHOLE), told)
        self.assertEqual(reached(LINE, 3, WHOLE), told)

    def test_no_node(self):
        for epoch in range(4):
            self.assertEqual(reached(LINE, epoch, ((),) * LINE.present(epoch)), ((((),) * LINE.present(epoch), ((0, 0, ()),)),))

    def test_no_let_part(self):
        house = house_of("open a { n : num 0 .. 1 ; m : num 0 .. 1 ; rule n = 0 ; rule n = 1 ; } "
                         "add b from a { n : num 0 .. 1 ; step n to n by same ; step m to none by apart 0 [ ] ; }")
        self.assertEqual(reached(house, 0, (("n",),)), ())
        self.assertEqual(reached(house, 0, (("m",),)), ((((0,),), ((0, 0, (0,)),)), (((1,),), ((0, 0, (1,)),))))
        self.assertEqual(reached(house, 1, (("n",), ("n",))), tuple((((n,), (n,)), ((1, 1, (n,)),)) for n in (0, 1)))

    def test_rows_through_forbidden_states(self):
        house = house_of(
            "open a { n : num 0 .. 2 ; } "
            "add b from a { m : num 0 .. 2 ; rule not m = 1 ; step n to m by same ; } "
            "add c from b { k : num 0 .. 5 ; step m to k by table [ 0 , 3 , 5 ] [ 0 , 1 , 1 , 1 , 1 , 2 ] ; } ")
        told = dict(reached(house, 2, WHOLE))
        # A forbidden state itself, and one that comes only over forbidden ones: k leaves its trace while m is 1.
        self.assertEqual(told[((1,), (1,), (3,))], ((0, 0, (1,)),))
        self.assertEqual(told[((1,), (1,), (4,))], ((2, 2, (4,)),))
        self.assertEqual(sorted(told), [((0,), (0,), (0,)), ((1,), (1,), (1,)), ((1,), (1,), (2,)), ((1,), (1,), (3,)), ((1,), (1,), (4,)),
                                        ((2,), (2,), (5,))])
        over = house_of(
            "open a { n : num 0 .. 2 ; } "
            "add b from a { p : num 0 .. 1 ; rule p = 0 ; step n to p by table [ 0 , 1 , 1 ] [ 2 , 1 ] ; } ")
        # Only 1 and 2 make p 1, which is forbidden; over it 0 comes with p 0, and over that 2 stays beside p 0.
        self.assertEqual(dict(reached(over, 1, (("n",), ("p",)))),
                         {((0,), (0,)): ((0, 0, (0,)),), ((1,), (1,)): ((0, 0, (1,)),), ((2,), (0,)): ((1, 1, (0,)),),
                          ((2,), (1,)): ((0, 0, (2,)),)})

    def test_fewer_deeds_come_before_lesser_ones(self):
        house = house_of(
            "open a { n : num 0 .. 1 ; } add b from a { m : num 0 .. 2 ; step n to m by table [ 0 , 2 ] [ 0 , 0 , 1 ] ; } "
            "add c from b { k : num 0 .. 1 ; step m to k by apart 1 0 ; }")
        told = dict(reached(house, 2, WHOLE))
        self.assertEqual(told[((0,), (1,), (1,))], ((2, 2, (1,)),))
        self.assertEqual(told[((0,), (0,), (1,))], ((0, 0, (0,)), (2, 2, (1,))))
        self.assertEqual(told[((1,), (2,), (0,))], ((0, 0, (1,)),))
        self.assertEqual(told[((0,), (1,), (0,))], ((1, 1, (1,)),))
        self.assertEqual(told[((1,), (2,), (1,))], ((0, 0, (1,)), (2, 2, (1,))))

    def test_a_state_of_the_epoch_ahead_that_comes_with_fewer_deeds_now(self):
        """b lets no put of 1 and 1, so two deeds make it; c lets it, and makes the same with one."""
        rule = "rule n = 0 or m = 0 ; "
        house = house_of("open a { n : num 0 .. 1 ; m : num 0 .. 1 ; " + rule + "} "
                         "add b from a { n : num 0 .. 1 ; m : num 0 .. 1 ; " + rule + "step n to n by same ; step m to m by apart 0 0 ; } "
                         "add c from b { n : num 0 .. 1 ; m : num 0 .. 1 ; step n to n by same ; step m to m by same ; }")
        both = ("n", "m")
        self.assertEqual(dict(reached(house, 1, (both, both)))[((1, 0), (1, 1))], ((1, 1, (0, 1)), (1, 0, (1, 0))))
        self.assertEqual(dict(reached(house, 2, (both, both, both)))[((1, 0), (1, 1), (1, 1))], ((2, 2, (1, 1)),))


class Compared(unittest.TestCase):

    def test_a_search_over_rows(self):
        seen = {}
        for house in some_houses(45):
            for epoch in range(len(house.events)):
                for bundle in unions_of(house, epoch):
                    own = Search(house, epoch, bundle).least_rows(60)
                    if own is None:
                        large(self, "bundle", house, epoch, bundle)
                        continue
                    told = reached(house, epoch, bundle)
                    self.assertEqual(told, tuple(sorted(own.items())))
                    for parts, row in told:
                        self.assertEqual(played(house, epoch, bundle, row), parts)
                        seen[len(row)] = seen.get(len(row), 0) + 1
        self.assertGreater(min(seen[1], seen[2], seen[3]), 50)

    def test_longer_houses(self):
        for house in some_houses(12, first=500, events=9, fields=1):
            for strand in strands_of(house, 8):
                own = Search(house, 8, strand).least_rows(60)
                if own is None:
                    large(self, "bundle", house, 8, strand)
                else:
                    self.assertEqual(dict(reached(house, 8, strand)), own)

    def test_all_rows_of_few_deeds(self):
        """Each row one by one, so nothing is left out."""
        rows = 0
        for house in some_houses(40, first=100, events=4, fields=1):
            for strand in strands_of(house, 3):
                search = Search(house, 3, strand)
                try:
                    told = dict(reached(house, 3, strand))
                except TooLarge:
                    continue
                best = {}
                for row in search.rows(3):
                    rows += 1
                    best.setdefault(search.played(row), row)
                self.assertEqual(best, {parts: row for parts, row in told.items() if len(row) <= 3})
        self.assertGreater(rows, 20000)

    def test_reached_states_stay_reached(self):
        for house in some_houses(40, first=200):
            for epoch in range(1, len(house.events)):
                for bundle in unions_of(house, epoch, 4):
                    try:
                        told = dict(reached(house, epoch, bundle))
                    except TooLarge:
                        continue
                    elders = dict(reached(house, epoch - 1, bundle[:house.present(epoch - 1)]))
                    self.assertLessEqual(len(elders), len(told))
                    self.assertEqual(set(elders), {parts[:house.present(epoch - 1)] for parts in told if parts[:house.present(epoch - 1)]
                                                   in elders})
                    if house.present(epoch) == house.present(epoch - 1):
                        self.assertEqual(told, elders)


class Large(unittest.TestCase):

    def test_60_and_61_states(self):
        for top, fits in ((59, True), (60, False)):
            house = house_of("open a { n : num 0 .. %d ; z : num 0 .. 0 ; }" % top)
            if fits:
                self.assertEqual(reached(house, 0, (("n", "z"),)), tuple((((n, 0),), ((0, 0, (n, 0)),)) for n in range(60)))
            else:
                large(self, "bundle", house, 0, (("n",),))
                large(self, "bundle", house, 0, (("n", "z"),))
                self.assertEqual(len(reached(house, 0, (("z",),))), 1)

    def test_60_and_61_states_that_come_late(self):
        """By deeds, by an add that joins strands, and by rows of several deeds."""
        for most, fits in ((11, True), (12, False)):
            house = house_of("open a { n : num 0 .. 4 ; m : num 0 .. %d ; }" % most)
            for bundle, many in (((("n",),), 5), ((("m",),), most + 1)):
                self.assertEqual(len(reached(house, 0, bundle)), many)
            if fits:
                self.assertEqual(len(reached(house, 0, (("n", "m"),))), 60)
            else:
                large(self, "bundle", house, 0, (("n", "m"),))
        for most, fits in ((29, True), (30, False)):
            house = house_of("open a { n : num 0 .. 1 ; } add b from a { m : num 0 .. %d ; step n to m by apart 0 0 ; } retire b ;" % most)
            self.assertEqual(len(reached(house, 0, (("n",),))), 2)
            for epoch in (1, 2):
                if fits:
                    told = reached(house, epoch, (("n",), ("m",)))
                    self.assertEqual(len(told), 60)
                    self.assertEqual(told[59], (((1,), (29,)), ((0, 0, (1,)), (1, 1, (29,)))))
                else:
                    large(self, "bundle", house, epoch, (("n",), ("m",)))

    def test_400_and_401_parts(self):
        for told, fits in (("n : num 1 .. 400 ;", True), ("n : num 1 .. 401 ;", False)):
            house = house_of("open a { %s rule n <= 3 ; }" % told)
            if fits:
                self.assertEqual([parts for parts, _ in reached(house, 0, (("n",),))], [((1,),), ((2,),), ((3,),)])
            else:
                large(self, "part", house, 0, (("n",),))
                self.assertEqual(len(reached(house, 0, ((),))), 1)
        house = house_of("open a { p : num 1 .. 20 ; q : num 1 .. 20 ; r : num 1 .. 21 ; rule p = 1 ; rule q = 2 ; rule r = 3 ; }")
        self.assertEqual(reached(house, 0, (("p", "q"),)), ((((1, 2),), ((0, 0, (1, 2)),)),))
        self.assertEqual(len(reached(house, 0, (("r",),))), 1)
        large(self, "part", house, 0, (("p", "r"),))
        large(self, "part", house, 0, (("p", "q", "r"),))

    def test_a_retired_version_can_have_too_many_parts(self):
        house = house_of("open a { n : num 0 .. 2 ; } add b from a { n : num -200 .. 200 ; rule n = 1 ; step n to n by clip ; } retire b ; "
                         "add c from a { n : num 0 .. 2 ; step n to n by same ; }")
        for epoch in (1, 2):
            large(self, "part", house, epoch, (("n",), ("n",)))
        large(self, "part", house, 3, (("n",), ("n",), ("n",)))
        self.assertEqual(len(reached(house, 0, (("n",),))), 3)
        fits = house_of("open a { n : num 0 .. 2 ; } add b from a { n : num -200 .. 199 ; rule n = 1 ; step n to n by clip ; } retire b ;")
        self.assertEqual(len(reached(fits, 2, (("n",), ("n",)))), 3)

    def test_a_later_add_joins_what_is_too_large(self):
        house = house_of("open a { p : num 1 .. 20 ; q : num 1 .. 21 ; rule p = 1 ; rule q = 2 ; } "
                         "add b from a { n : num 0 .. 0 ; step p , q to n by apart [ 1 , 1 ] 0 ; } retire a ;")
        self.assertEqual([len(reached(house, 0, bundle)) for bundle in ((("p",),), (("q",),))], [1, 1])
        for epoch in (1, 2):
            large(self, "part", house, epoch, (("p", "q"), ("n",)))

    def test_parts_come_before_states(self):
        house = house_of("open a { n : num 0 .. 60 ; } add b from a { m : num 0 .. 400 ; step n to m by clip ; } retire b ; "
                         "add c from a { n : num 0 .. 60 ; step n to n by same ; }")
        large(self, "bundle", house, 0, (("n",),))
        large(self, "part", house, 1, (("n",), ("m",)))
        large(self, "part", house, 2, (("n",), ("m",)))
        large(self, "part", house, 3, (("n",), ("m",), ("n",)))
        joint = house_of("open a { n : num 0 .. 60 ; m : num 0 .. 400 ; } add b from a { n : num 0 .. 9 ; step n to n by clip ; "
                         "step m to none by apart 0 [ ] ; }")
        large(self, "part", joint, 0, (("n", "m"),))
        large(self, "part", joint, 0, (("m",),))
        large(self, "bundle", joint, 1, (("n",), ("n",)))


class WhatGrows(unittest.TestCase):

    def test_at_most_60_states_and_rows_no_longer_than_all_states(self):
        for house in some_houses(60, first=300, events=6):
            for strand in strands_of(house, 5):
                try:
                    states = [reached(house, epoch, strand[:house.present(epoch)]) for epoch in range(6)]
                except TooLarge:
                    continue
                for epoch, told in enumerate(states):
                    self.assertLessEqual(len(told), 60)
                    for _, row in told:
                        self.assertLessEqual(len(row), sum(len(past) for past in states[:epoch + 1]))

    def test_a_long_row(self):
        """Five versions that do not lead each other anywhere, so each of them needs a deed of its own."""
        text = "open a { n : num 0 .. 0 ; } "
        for name in "bcdef":
            text += "add %s from a { n : num 0 .. 1 ; step n to n by apart 0 0 ; } " % name
        told = dict(reached(house_of(text), 5, (("n",),) * 6))
        self.assertEqual(len(told), 32)
        for parts, row in told.items():
            own = tuple((version, version, (1,)) for version in range(1, 6) if parts[version] == (1,))
            self.assertEqual(row, own or ((0, 0, (0,)),))

    def test_retirements_change_nothing(self):
        house = house_of("open a { n : num 0 .. 2 ; } add b from a { m : num 0 .. 3 ; step n to m by clip ; } "
                         "add c from a { k : num 0 .. 4 ; step n to k by clip ; } retire b ; retire a ;")
        told = [reached(house, epoch, (("n",), ("m",), ("k",))) for epoch in (2, 3, 4)]
        self.assertEqual(told, [tuple(sorted(Search(house, epoch, (("n",), ("m",), ("k",))).least_rows().items())) for epoch in (2, 3, 4)])
        self.assertEqual(told[0], told[1])
        self.assertEqual(told[0], told[2])
        self.assertGreater(len(told[0]), 5)


if __name__ == "__main__":
    unittest.main()
