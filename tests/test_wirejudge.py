"""Writers and readers: promise [45]."""

import itertools
import random
import unittest

from small import HIDING, LINE, PAIR, house_of, let_wholes, some_houses, strands_by_links, table_houses

from telltrove.forms import flat_of, leaves_of
from telltrove.spreads import spread
from telltrove.tags import tags_of
from telltrove.wirejudge import wire_lost, wire_unlike, wire_unsafe
from telltrove.wires import read_wire, wire_of


def read_by(house, writer, reader, whole):
    return read_wire(house, reader, wire_of(house, writer, whole))[0]


def told_to(house, writer, reader, whole):
    return spread(house, len(house.events) - 1, None, writer, whole)[reader]


def unlike_by_wholes(house, writer, reader):
    wholes = let_wholes(house.forms[writer])
    return min((whole for whole in wholes if read_by(house, writer, reader, whole) != told_to(house, writer, reader, whole)), default=None)


def unsafe_by_wholes(house, writer, reader):
    lets = set(let_wholes(house.forms[reader]))
    return min((whole for whole in let_wholes(house.forms[writer]) if read_by(house, writer, reader, whole) not in lets), default=None)


def lost_by_wholes(house, writer, reader):
    reads = [(whole, read_by(house, writer, reader, whole)) for whole in let_wholes(house.forms[writer])]
    return min(((one, two) for (one, here), (two, there) in itertools.combinations(reads, 2) if here == there), default=None)


class ByHand(unittest.TestCase):

    def test_the_line(self):
        self.assertEqual(wire_unlike(LINE, 0, 1), (1,))
        self.assertEqual(wire_unlike(LINE, 1, 0), (1,))
        self.assertIsNone(wire_unlike(LINE, 0, 0))
        self.assertIsNone(wire_unsafe(LINE, 0, 1))
        self.assertEqual(wire_lost(LINE, 0, 1), ((0,), (1,)))
        self.assertIsNone(wire_lost(LINE, 2, 2))

    def test_a_leaf_that_is_renamed_or_moved(self):
        house = house_of("open a { n : num 0 .. 2 ; m : num 0 .. 1 ; } "
                         "add b from a { h : rec { m : num 0 .. 1 ; } ; x : num 0 .. 2 ; step n to x by same ; step m to h . m by same ; } retire a ;")
        for writer, reader in itertools.product((0, 1), repeat=2):
            self.assertIsNone(wire_unlike(house, writer, reader))
            self.assertIsNone(wire_unsafe(house, writer, reader))
            self.assertIsNone(wire_lost(house, writer, reader))

    def test_what_is_read_is_not_let(self):
        house = house_of("open a { n : num 0 .. 2 ; m : num 0 .. 2 ; } "
                         "add b from a { n : num 0 .. 2 ; m : num 0 .. 2 ; rule not n = 1 ; rule not m = 0 ; step n to n by same ; step m to m by rank ; }")
        # m is read as 0 from whatever a writes; n is let only if it is not 1. The least whole of all is one with m.
        self.assertEqual(wire_unsafe(house, 0, 1), (0, 0))
        self.assertEqual(wire_unlike(house, 0, 1), (0, 1))
        house = house_of("open a { n : num 0 .. 2 ; m : num 0 .. 2 ; } "
                         "add b from a { n : num 0 .. 2 ; m : num 0 .. 2 ; rule not n = 1 ; rule not m = 2 ; step n to n by same ; step m to m by same ; }")
        self.assertEqual(wire_unsafe(house, 0, 1), (0, 2))
        self.assertIsNone(wire_unsafe(house, 1, 0))

    def test_a_strand_without_a_leaf_of_the_writer(self):
        text = "open a { n : num 1 .. 2 ; } add b from a { n : num 1 .. 2 ; z : num 0 .. 1 ; %s step n to n by same ; step none to z by apart [ ] %s ; }"
        house = house_of(text % ("", "1"))
        # The house tells z as 1, the reader has its least value 0, whatever n is.
        self.assertEqual(wire_unlike(house, 0, 1), (1,))
        self.assertIsNone(wire_unlike(house, 1, 0))
        self.assertIsNone(wire_unsafe(house, 0, 1))
        self.assertIsNone(wire_unlike(house_of(text % ("", "0")), 0, 1))
        self.assertEqual(wire_unsafe(house_of(text % ("rule not z = 0 ;", "1")), 0, 1), (1,))
        self.assertIsNone(wire_lost(house, 0, 1))
        # b has two wholes for each of a.
        self.assertEqual(wire_lost(house, 1, 0), ((1, 0), (1, 1)))

    def test_the_least_of_several_strands(self):
        house = house_of("open a { p : num 0 .. 2 ; q : num 0 .. 2 ; r : num 0 .. 1 ; rule not q = 0 ; } "
                         "add b from a { p : num 0 .. 2 ; q : num 0 .. 2 ; step p to p by table [ 0 , 0 , 0 ] [ 0 , 1 , 2 ] ; "
                         "step q to q by same ; step r to none by apart 0 [ ] ; }")
        # p and r are both lost: of the pairs (0,1,0) (1,1,0) and (0,1,0) (0,1,1) the second one is less.
        self.assertEqual(wire_lost(house, 0, 1), ((0, 1, 0), (0, 1, 1)))
        self.assertIsNone(wire_unlike(house, 0, 1))

    def test_the_least_let_parts_elsewhere(self):
        house = house_of("open a { p : num 0 .. 2 ; q : num 0 .. 2 ; rule not q = 0 ; rule not p = 0 ; rule not p = 1 ; } "
                         "add b from a { p : num 0 .. 2 ; q : num 0 .. 1 ; step p to p by same ; step q to q by clip ; }")
        self.assertEqual(wire_unlike(house, 0, 1), (2, 1))
        self.assertEqual(wire_lost(house, 0, 1), ((2, 1), (2, 2)))

    def test_houses_that_break(self):
        """A house is small if it has let wholes, also if some row breaks a form."""
        house = house_of("open a { n : num 0 .. 2 ; } add b from a { m : num 0 .. 2 ; rule not m = 1 ; step n to m by same ; }")
        self.assertEqual(wire_unsafe(house, 0, 1), (1,))
        self.assertIsNone(wire_unlike(house, 0, 1))


class Compared(unittest.TestCase):

    def test_with_a_search_over_let_wholes(self):
        rng = random.Random(51)
        seen = {}
        houses = [LINE, HIDING, PAIR] + some_houses(150, first=5600, fields=3, rules=(0, 1, 1, 2)) + table_houses(10, first=90)
        for house in houses:
            if max(len(let_wholes(form)) for form in house.forms) > 60:
                continue
            pairs = list(itertools.product(range(len(house.names)), repeat=2))
            for writer, reader in rng.sample(pairs, min(5, len(pairs))):
                for function, by_wholes in ((wire_unlike, unlike_by_wholes), (wire_unsafe, unsafe_by_wholes), (wire_lost, lost_by_wholes)):
                    own = by_wholes(house, writer, reader)
                    self.assertEqual(function(house, writer, reader), own, (house.events, writer, reader))
                    key = (function.__name__, own is not None)
                    seen[key] = seen.get(key, 0) + 1
                gone = [version for version in (writer, reader) if version not in house.living(len(house.events) - 1)]
                seen["gone"] = seen.get("gone", 0) + len(gone)
        self.assertEqual(len(seen), 7)
        self.assertGreater(min(seen.values()), 40, seen)

    def test_leaves_with_one_tag_are_in_one_strand(self):
        for house in some_houses(60, first=5800, fields=3):
            tags = tags_of(house)
            for strand in strands_by_links(house, len(house.events) - 1):
                inner, outer = set(), set()
                for version, paths in enumerate(strand):
                    for (path, _), tag in zip(leaves_of(house.forms[version]), tags[version]):
                        (inner if path in paths else outer).add(tag)
                self.assertFalse(inner & outer)

    def test_the_pair_is_read_alike(self):
        for house in some_houses(40, first=5900, fields=3, rules=(0, 1)):
            for writer, reader in itertools.product(range(len(house.names)), repeat=2):
                pair = wire_lost(house, writer, reader)
                if pair is not None:
                    self.assertLess(flat_of(house.forms[writer], pair[0]), flat_of(house.forms[writer], pair[1]))
                    self.assertEqual(*[read_by(house, writer, reader, whole) for whole in pair])


if __name__ == "__main__":
    unittest.main()
