"""Classes of states that are alike: promises [31] and [67]."""

import itertools
import unittest

from small import HIDING, LINE, Search, house_of, some_houses, table_houses, unions_of

from telltrove.classes import classes_of
from telltrove.errors import TooLarge
from telltrove.reach import reached

WHOLE = (("n",), ("m",), ("k",))


def large(test, told, *arguments):
    with test.assertRaises(TooLarge) as caught:
        classes_of(*arguments)
    test.assertEqual(caught.exception.part, told)


class ByHand(unittest.TestCase):

    def test_the_line(self):
        self.assertEqual(classes_of(LINE, 0, WHOLE[:1]), tuple((((n,),), n) for n in range(3)))
        self.assertEqual(classes_of(LINE, 1, WHOLE[:2]), ((((0,), (0,)), 0), (((1,), (1,)), 1), (((2,), (1,)), 2)))
        self.assertEqual([code for _, code in classes_of(LINE, 2, WHOLE)], [0, 1, 2, 3, 4])
        self.assertEqual(classes_of(LINE, 3, WHOLE), ((((0,), (0,), (0,)), 0), (((1,), (1,), (1,)), 1), (((1,), (1,), (2,)), 1),
                                                      (((2,), (1,), (1,)), 2), (((2,), (1,), (2,)), 2)))

    def test_no_node(self):
        for epoch in range(4):
            self.assertEqual(classes_of(LINE, epoch, ((),) * LINE.present(epoch)), ((((),) * LINE.present(epoch), 0),))

    def test_nothing_is_reached(self):
        house = house_of("open a { n : num 0 .. 1 ; rule n = 0 ; rule n = 1 ; }")
        self.assertEqual(classes_of(house, 0, (("n",),)), ())

    def test_a_retired_version_alone_could_tell_them_apart(self):
        text = ("open a { n : num 0 .. 3 ; } add b from a { m : num 0 .. 3 ; step n to m by same ; } "
                "add c from a { k : num 0 .. 1 ; step n to k by table [ 0 , 0 , 1 , 1 ] [ 0 , 2 ] ; } ")
        house = house_of(text + "retire b ; retire a ;")
        told = [[code for _, code in classes_of(house, epoch, then_whole(house, epoch))] for epoch in range(5)]
        self.assertEqual(told, [[0, 1, 2, 3], [0, 1, 2, 3], [0, 1, 2, 3], [0, 1, 2, 3], [0, 0, 1, 1]])

    def test_what_is_not_shown_but_comes_out_later(self):
        codes = dict(classes_of(HIDING, 3, WHOLE))
        self.assertNotEqual(codes[((0,), (1,), (0,))], codes[((0,), (2,), (0,))])
        # The 0 in b becomes 3, too, when a puts 1; and what c puts leads to the same.
        self.assertEqual(codes[((0,), (0,), (0,))], codes[((0,), (2,), (0,))])
        self.assertEqual(classes_of(HIDING, 3, WHOLE), ((((0,), (0,), (0,)), 0), (((0,), (1,), (0,)), 1), (((0,), (2,), (0,)), 0),
                                                        (((1,), (1,), (0,)), 2), (((1,), (3,), (1,)), 3)))
        self.assertEqual([code for _, code in classes_of(HIDING, 2, WHOLE)], [0, 1, 2, 3, 4])

    def test_what_is_not_shown_and_never_comes_out(self):
        house = house_of("open a { n : num 0 .. 2 ; } "
                         "add b from a { m : num 0 .. 2 ; step n to m by table [ 0 , 1 , 1 ] [ 0 , 1 , 1 ] ; } "
                         "add c from b { k : num 0 .. 1 ; step m to k by table [ 0 , 1 , 1 ] [ 0 , 1 ] ; } retire b ; ")
        codes = dict(classes_of(house, 3, WHOLE))
        self.assertEqual(codes[((1,), (1,), (1,))], codes[((1,), (2,), (1,))])
        self.assertNotEqual(codes[((1,), (1,), (1,))], codes[((2,), (1,), (1,))])

    def test_codes_go_by_the_least_states(self):
        house = house_of("open a { n : num 0 .. 4 ; } "
                         "add b from a { k : num 0 .. 2 ; step n to k by table [ 2 , 0 , 2 , 1 , 0 ] [ 1 , 3 , 0 ] ; } retire a ;")
        self.assertEqual(classes_of(house, 2, (("n",), ("k",))),
                         ((((0,), (2,)), 0), (((1,), (0,)), 1), (((2,), (2,)), 0), (((3,), (1,)), 2), (((4,), (0,)), 1)))


def then_whole(house, epoch):
    return (("n",), ("m",), ("k",))[:house.present(epoch)]


class Compared(unittest.TestCase):

    def test_a_search_over_rows(self):
        seen = {True: 0, False: 0}
        for house in some_houses(50, first=600) + table_houses(60, adds=4, retires=3):
            for epoch in range(len(house.events)):
                for bundle in unions_of(house, epoch, 5):
                    try:
                        states = [parts for parts, _ in reached(house, epoch, bundle)]
                    except TooLarge as error:
                        large(self, error.part, house, epoch, bundle)
                        continue
                    if len(states) <= 24:
                        own = Search(house, epoch, bundle).classes(states)
                        self.assertEqual(classes_of(house, epoch, bundle), tuple(zip(states, own)))
                        seen[len(set(own)) < len(own)] += 1
        self.assertGreater(min(seen.values()), 50)

    def test_all_rows_of_few_deeds_tell_no_more(self):
        """States with one code show the same behind each row, one by one."""
        pairs = 0
        for house in some_houses(60, first=700, events=5, fields=1):
            epoch = len(house.events) - 1
            for bundle in unions_of(house, epoch, 3):
                try:
                    told = classes_of(house, epoch, bundle)
                except TooLarge:
                    continue
                search = Search(house, epoch, bundle)
                deeds = search.deeds(epoch)
                if len(told) > 12 or len(deeds) > 12:
                    continue
                for (one, c), (two, d) in itertools.combinations(told, 2):
                    differ = any(search.view(behind(search, one, row)) != search.view(behind(search, two, row))
                                 for many in range(3) for row in itertools.product(deeds, repeat=many))
                    if c == d:
                        pairs += 1
                        self.assertIs(differ, False)
                    elif not differ:
                        self.assertGreater(len(search.parting(one, two)), 2)
        self.assertGreater(pairs, 30)


def behind(search, parts, row):
    for _, version, part in row:
        parts = search.spread(search.epoch, parts, version, part)
    return parts


class Large(unittest.TestCase):

    def test_as_what_is_reached(self):
        for top, fits in ((59, True), (60, False)):
            house = house_of("open a { n : num 0 .. %d ; } add b from a { e : rec { } ; step n to none by apart 0 [ ] ; } retire a ;" % top)
            for epoch in (0, 1):
                if fits:
                    self.assertEqual([code for _, code in classes_of(house, epoch, (("n",), ())[:epoch + 1])], list(range(60)))
                else:
                    large(self, "bundle", house, epoch, (("n",), ())[:epoch + 1])
            if fits:
                self.assertEqual({code for _, code in classes_of(house, 2, (("n",), ()))}, {0})
            else:
                large(self, "bundle", house, 2, (("n",), ()))
        for text, fits in (("400", True), ("401", False)):
            house = house_of("open a { n : num 1 .. %s ; rule n <= 2 ; }" % text)
            if fits:
                self.assertEqual(len(classes_of(house, 0, (("n",),))), 2)
            else:
                large(self, "part", house, 0, (("n",),))

    def test_retired_versions_and_both(self):
        house = house_of("open a { n : num 0 .. 60 ; } add b from a { m : num 0 .. 400 ; step n to m by clip ; } retire b ;")
        large(self, "bundle", house, 0, (("n",),))
        large(self, "part", house, 1, (("n",), ("m",)))
        large(self, "part", house, 2, (("n",), ("m",)))


class WhatGrows(unittest.TestCase):

    def test_at_most_60_classes_and_one_for_each_state_at_most(self):
        for house in some_houses(40, first=900, events=6):
            for bundle in unions_of(house, 5, 4):
                try:
                    told = classes_of(house, 5, bundle)
                except TooLarge:
                    continue
                codes = [code for _, code in told]
                firsts = [codes.index(code) for code in sorted(set(codes))]
                self.assertEqual(sorted(set(codes)), list(range(len(set(codes)))))
                self.assertEqual(firsts, sorted(firsts))
                self.assertEqual([parts for parts, _ in told], [parts for parts, _ in reached(house, 5, bundle)])
                self.assertLessEqual(len(codes), 60)


if __name__ == "__main__":
    unittest.main()
