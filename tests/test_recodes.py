"""Recodes: promise [35]."""

import unittest

from small import HIDING, LINE, extended_by_wholes, house_of, some_houses, strands_by_links, table_houses, then, unions_of

from telltrove.classes import classes_of
from telltrove.errors import TooLarge
from telltrove.recodes import recode
from telltrove.verdicts import verdict

WHOLE = (("n",), ("m",), ("k",))
JOINS = house_of(
    "open a { p : num 0 .. 2 ; q : num 0 .. 1 ; r : num 0 .. 1 ; } "
    "add b from a { s : num 0 .. 3 ; t : num 0 .. 1 ; u : num 0 .. 2 ; step q , p to s by apart [ 0 , 0 ] 0 ; step r to t by same ; "
    "step none to u by apart [ ] 1 ; } retire a ;")


def elders_of(house, epoch, bundle):
    """The strands of the epoch ahead that are in the bundle."""
    elder = then(house, epoch - 1, bundle)
    return elder, [strand for strand in strands_by_links(house, epoch - 1)
                   if any(set(here) & set(there) for here, there in zip(strand, elder))]


def narrowed(bundle, strand, parts):
    return tuple(tuple(value for path, value in zip(paths, part) if path in some) for paths, part, some in zip(bundle, parts, strand))


class ByHand(unittest.TestCase):

    def test_the_line(self):
        self.assertEqual(recode(LINE, 1, WHOLE[:2]), (((0,), 0), ((1,), 1), ((2,), 2)))
        self.assertEqual(recode(LINE, 2, WHOLE), (((0,), 0), ((1,), 1), ((2,), 3)))
        self.assertEqual(recode(LINE, 3, WHOLE), (((0,), 0), ((1,), 1), ((2,), 1), ((3,), 2), ((4,), 2)))

    def test_no_node(self):
        for epoch in (1, 2, 3):
            self.assertEqual(recode(LINE, epoch, ((),) * LINE.present(epoch)), (((), 0),))

    def test_an_add_that_joins_strands(self):
        bundle = (("p", "q"), ("s",))
        # Codes of the states ((p, q), (s,)): four for each p and q, of which an add makes the one with s 0.
        told = recode(JOINS, 1, bundle)
        self.assertEqual(told, tuple(((p, q), 8 * p + 4 * q) for p in range(3) for q in range(2)))

    def test_an_add_that_leaves_strands(self):
        self.assertEqual(recode(JOINS, 1, (("r",), ("t",))), (((0,), 0), ((1,), 1)))
        self.assertEqual(recode(JOINS, 1, (("p", "q", "r"), ("s", "t"))),
                         tuple(((p, q, r), code_of(JOINS, 1, (("p", "q", "r"), ("s", "t")), ((p, q, r), (0, r))))
                               for p in range(3) for q in range(2) for r in range(2)))
        two = house_of("open a { p : num 0 .. 2 ; q : num 0 .. 1 ; } add b from a { p : num 0 .. 2 ; step p to p by same ; "
                       "step q to none by apart 0 [ ] ; } ")
        self.assertEqual(recode(two, 1, (("q",), ())), (((0,), 0), ((1,), 1)))
        self.assertEqual(recode(two, 1, (("p",), ("p",))), (((0,), 0), ((1,), 1), ((2,), 2)))
        self.assertEqual(recode(two, 1, (("p", "q"), ("p",))), tuple(((p, q), 2 * p + q) for p in range(3) for q in range(2)))

    def test_a_strand_that_is_new(self):
        self.assertEqual(recode(JOINS, 1, ((), ("u",))), (((), 1),))
        self.assertEqual(recode(JOINS, 1, (("r",), ("t", "u"))), (((0,), 1), ((1,), 4)))

    def test_a_retirement(self):
        self.assertEqual(recode(JOINS, 2, (("p", "q"), ("s",))), tuple(((8 * p + 4 * q + s,), s) for p in range(3) for q in range(2)
                                                                       for s in range(4)))
        self.assertEqual(recode(JOINS, 2, ((), ("u",))), (((0,), 0), ((1,), 1), ((2,), 2)))
        self.assertEqual(recode(JOINS, 2, (("r",), ("t",))), (((0,), 0), ((1,), 1)))
        self.assertEqual(recode(HIDING, 3, WHOLE), (((0,), 0), ((1,), 1), ((2,), 0), ((3,), 2), ((4,), 3)))


def code_of(house, epoch, bundle, parts):
    return dict(classes_of(house, epoch, bundle))[parts]


class Compared(unittest.TestCase):

    def test_with_what_is_done_to_states(self):
        """It does not matter which of the states with the codes is taken: all of them are."""
        seen = {"joins": 0, "same codes": 0, "retire": 0, "forgets": 0}
        houses = some_houses(60, first=2000) + table_houses(40, adds=4, retires=3) + table_houses(10, adds=5, retires=4)
        for house in houses:
            if verdict(house) != ("let",):
                continue
            for epoch in range(1, len(house.events)):
                for bundle in unions_of(house, epoch, 5):
                    try:
                        laters = dict(classes_of(house, epoch, bundle))
                    except TooLarge as error:
                        with self.assertRaises(TooLarge) as caught:
                            recode(house, epoch, bundle)
                        self.assertEqual(caught.exception.part, error.part)
                        continue
                    elder, strands = elders_of(house, epoch, bundle)
                    tables = [dict(classes_of(house, epoch - 1, strand)) for strand in strands]
                    own = {}
                    for parts, _ in classes_of(house, epoch - 1, elder):
                        codes = tuple(table[narrowed(elder, strand, parts)] for table, strand in zip(tables, strands))
                        own.setdefault(codes, []).append(laters[extended_by_wholes(house, epoch, bundle, parts)])
                    for codes in own:
                        seen["same codes"] += len(own[codes]) > 1
                        self.assertEqual(len(set(own[codes])), 1)
                    told = recode(house, epoch, bundle)
                    self.assertEqual(told, tuple((codes, own[codes][0]) for codes in sorted(own)))
                    seen["joins"] += len(strands) > 1
                    seen["retire"] += house.present(epoch) == house.present(epoch - 1)
                    seen["forgets"] += len({code for _, code in told}) < len(told)
        self.assertGreater(min(seen.values()), 20, seen)


class Large(unittest.TestCase):

    def large(self, told, *arguments):
        with self.assertRaises(TooLarge) as caught:
            recode(*arguments)
        self.assertEqual(caught.exception.part, told)

    def test_unions_of_strands(self):
        """The verdict is that it is let, as each strand alone is small."""
        house = house_of("open a { n : num 0 .. 19 ; m : num 0 .. 19 ; o : num 0 .. 20 ; p : num 0 .. 59 ; z : num 0 .. 0 ; } "
                         "add b from a { n : num 0 .. 19 ; m : num 0 .. 19 ; o : num 0 .. 20 ; step n to n by same ; step m to m by same ; "
                         "step o to o by same ; step p to none by apart 0 [ ] ; step z to none by apart 0 [ ] ; } retire b ;")
        self.assertEqual(verdict(house), ("let",))
        for epoch in (1, 2):
            self.large("bundle", house, epoch, (("n", "m"), ("n", "m")))
            self.large("part", house, epoch, (("n", "o"), ("n", "o")))
            self.large("part", house, epoch, (("n", "p"), ("n",)))
            self.assertEqual(recode(house, epoch, (("p", "z"), ())), tuple(((p, 0), p) for p in range(60)))

    def test_a_version_of_this_epoch_alone(self):
        house = house_of("open a { n : num 0 .. 1 ; } add b from a { m : num 0 .. 30 ; k : num 0 .. 1 ; step n to k by same ; "
                         "step none to m by apart [ ] 0 ; }")
        self.assertEqual(verdict(house), ("let",))
        self.large("bundle", house, 1, (("n",), ("m", "k")))
        self.assertEqual(recode(house, 1, ((), ("m",))), (((), 0),))


if __name__ == "__main__":
    unittest.main()
