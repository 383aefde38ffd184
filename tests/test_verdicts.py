"""The verdict on a house: promises [27] and [28]."""

import itertools
import random
import unittest

from small import (LINE, Search, hall_behind, has_let, house_of, let_wholes, lets_in, part_in, some_houses, some_whole_row,
                   strands_by_links)

from telltrove.errors import TooLarge
from telltrove.letting import is_let
from telltrove.rows import whole_row
from telltrove.verdicts import verdict


def verdict_by_search(house):
    """The verdict on a house without large groups."""
    for epoch, event in enumerate(house.events):
        if event[0] == "retire":
            continue
        if not has_let(house.forms[house.present(epoch) - 1]):
            return "empty", epoch
        for number, strand in enumerate(strands_by_links(house, epoch)):
            search = Search(house, epoch, strand)
            rows = search.least_rows(60)
            if rows is None:
                return "large", epoch
            broken = []
            for parts, row in rows.items():
                unlet = [version for version in house.living(epoch) if parts[version] not in search.lets[version]]
                if unlet:
                    broken.append((len(row), row, unlet[0]))
            if broken:
                return ("breaks", epoch, number) + min(broken)[1:]
    return ("let",)


class Each(unittest.TestCase):

    def told(self, text, answer):
        self.assertEqual(verdict(house_of(text)), answer)

    def test_let(self):
        self.assertEqual(verdict(LINE), ("let",))
        self.told("open a { n : num 0 .. 2 ; rule n = 1 ; }", ("let",))
        self.told("open a { e : rec { } ; }", ("let",))
        self.told("open a { e : rec { } ; } add b from a { n : num 0 .. 2 ; rule n = 1 ; step none to n by apart [ ] 1 ; }", ("let",))
        self.told("open a { n : num 0 .. 59 ; }", ("let",))
        self.told("open a { n : num 1 .. 400 ; rule n <= 60 ; }", ("let",))

    def test_breaks(self):
        self.told("open a { n : num 0 .. 2 ; } add b from a { m : num 0 .. 2 ; rule not m = 1 ; step n to m by same ; }",
                  ("breaks", 1, 0, ((0, 0, (1,)),), 1))
        # It is the new version's clients that break the elder one's form.
        self.told("open a { n : num 0 .. 2 ; rule not n = 1 ; } add b from a { m : num 0 .. 2 ; step n to m by same ; }",
                  ("breaks", 1, 0, ((1, 1, (1,)),), 0))
        self.told("open a { e : rec { } ; } add b from a { n : num 0 .. 2 ; rule n = 1 ; step none to n by apart [ ] 2 ; }",
                  ("breaks", 1, 0, ((0, 0, ()),), 1))

    def test_large(self):
        self.told("open a { n : num 1 .. 401 ; }", ("large", 0))
        self.told("open a { n : num 1 .. 401 ; rule n = 1 ; }", ("large", 0))
        self.told("open a { n : num 1 .. 20 ; m : num 1 .. 21 ; rule n same n ; rule n <= m + 0 ; rule n = 1 ; rule m = 1 ; }", ("large", 0))
        self.told("open a { n : num 0 .. 60 ; }", ("large", 0))
        self.told("open a { n : num 0 .. 2 ; } add b from a { n : num 0 .. 2 ; m : num 1 .. 401 ; step n to n by same ; "
                  "step none to m by apart [ ] 1 ; }", ("large", 1))
        # Small groups that a step puts into one strand.
        self.told("open a { n : num 1 .. 20 ; m : num 1 .. 21 ; rule n = 1 ; rule m = 1 ; } "
                  "add b from a { k : num 0 .. 1 ; rule k = 1 ; step n , m to k by apart [ 1 , 1 ] 1 ; }", ("large", 1))
        self.told("open a { n : num 1 .. 20 ; m : num 1 .. 20 ; rule n = 1 ; rule m = 1 ; } "
                  "add b from a { k : num 0 .. 1 ; rule k = 1 ; step n , m to k by apart [ 1 , 1 ] 1 ; }", ("let",))
        self.told("open a { n : num 0 .. 7 ; m : num 0 .. 7 ; } "
                  "add b from a { k : num 0 .. 1 ; step n , m to k by apart [ 0 , 0 ] 0 ; }", ("large", 1))

    def test_empty(self):
        self.told("open a { n : num 0 .. 2 ; rule n = 0 ; rule n = 1 ; }", ("empty", 0))
        self.told("open a { n : num 0 .. 2 ; m : num 0 .. 1 ; rule not n same n ; }", ("empty", 0))
        self.told("open a { n : num 0 .. 2 ; } add b from a { m : num 0 .. 2 ; rule m <= -1 ; step n to m by same ; }", ("empty", 1))

    def test_retirements_are_let(self):
        house = "open a { n : num 0 .. 2 ; } add b from a { m : num 0 .. 2 ; rule not m = 1 ; step n to m by same ; } retire %s ;"
        self.told(house % "a", ("breaks", 1, 0, ((0, 0, (1,)),), 1))
        self.told(house % "b", ("breaks", 1, 0, ((0, 0, (1,)),), 1))

    def test_retired_versions_do_not_mind(self):
        self.told("open a { n : num 0 .. 2 ; rule not n = 1 ; } add b from a { m : num 0 .. 1 ; step n to m by table [ 0 , 0 , 1 ] [ 0 , 2 ] ; } "
                  "retire a ; add c from b { k : num 0 .. 2 ; step m to k by clip ; }", ("let",))
        text = "add c from b { k : num 0 .. 3 ; step m to k by clip ; } add d from c { n : num 0 .. 3 ; rule not n = 1 ; step k to n by same ; }"
        self.told("open a { n : num 0 .. 3 ; rule not n = 1 ; } add b from a { m : num 0 .. 3 ; rule not m = 1 ; step n to m by same ; } "
                  "retire a ; " + text, ("breaks", 2 + 1, 0, ((3, 2, (1,)),), 1))
        self.told("open a { n : num 0 .. 3 ; rule not n = 1 ; } add b from a { m : num 0 .. 3 ; rule not m = 1 ; step n to m by same ; } "
                  "retire a ; add c from b { k : num 2 .. 3 ; step m to k by clip ; } retire b ; "
                  "add d from c { n : num 0 .. 3 ; step k to n by clip ; }", ("let",))

    def test_retired_versions_deeds_remain(self):
        self.told("open a { n : num 0 .. 2 ; } add b from a { m : num 0 .. 2 ; step n to m by same ; } retire a ; "
                  "add c from b { k : num 0 .. 2 ; rule not k = 2 ; step m to k by same ; }", ("breaks", 3, 0, ((0, 0, (2,)),), 2))


class Order(unittest.TestCase):

    def told(self, text, answer):
        self.assertEqual(verdict(house_of(text)), answer)

    def test_a_large_group_comes_before_no_let_whole(self):
        for fields in ("n : num 1 .. 401 ; m : num 0 .. 1 ;", "m : num 0 .. 1 ; n : num 1 .. 401 ;"):
            for rules in ("rule m = 0 ; rule m = 1 ;", "rule n = 5 ; rule n = 6 ;"):
                self.told("open a { %s %s }" % (fields, rules), ("large", 0))
                self.told("open z { e : rec { } ; } add a from z { %s %s step none to n , m by apart [ ] [ 1 , 0 ] ; }" % (fields, rules),
                          ("large", 1))

    def test_no_let_whole_comes_before_strands(self):
        self.told("open a { n : num 0 .. 60 ; m : num 0 .. 1 ; rule m = 0 ; rule m = 1 ; }", ("empty", 0))
        self.told("open a { n : num 0 .. 2 ; } add b from a { n : num 0 .. 2 ; m : num 0 .. 1 ; rule not n = 1 ; rule m = 0 ; rule m = 1 ; "
                  "step n to n by same ; step none to m by apart [ ] 0 ; }", ("empty", 1))

    def test_a_large_group_comes_before_a_break_of_an_earlier_strand(self):
        self.told("open a { n : num 0 .. 2 ; } add b from a { n : num 0 .. 2 ; m : num 1 .. 401 ; rule not n = 1 ; "
                  "step n to n by same ; step none to m by apart [ ] 1 ; }", ("large", 1))

    def test_strands_by_their_numbers(self):
        start = "open a { n : num 0 .. 2 ; m : num 0 .. 2 ; } add b from a { n : num 0 .. 2 ; m : num 0 .. 2 ; k : num 0 .. 60 ; "
        steps = "step n to n by same ; step m to m by same ; step none to k by apart [ ] 0 ; }"
        self.told(start + "rule not n = 1 ; " + steps, ("breaks", 1, 0, ((0, 0, (1,)),), 1))
        self.told(start + "rule not m = 2 ; " + steps, ("breaks", 1, 1, ((0, 0, (2,)),), 1))
        self.told(start + "rule not n = 2 ; rule not m = 1 ; " + steps, ("breaks", 1, 0, ((0, 0, (2,)),), 1))
        self.told(start + steps, ("large", 1))
        self.told("open a { k : num 0 .. 9 ; l : num 0 .. 9 ; n : num 0 .. 2 ; } add b from a { n : num 0 .. 2 ; rule not n = 1 ; "
                  "step n to n by same ; step k , l to none by apart [ 0 , 0 ] [ ] ; }", ("large", 1))
        self.told("open a { n : num 0 .. 2 ; k : num 0 .. 9 ; l : num 0 .. 9 ; } add b from a { n : num 0 .. 2 ; rule not n = 1 ; "
                  "step n to n by same ; step k , l to none by apart [ 0 , 0 ] [ ] ; }", ("breaks", 1, 0, ((0, 0, (1,)),), 1))

    def test_epochs_by_their_numbers(self):
        start = "open a { n : num 0 .. 2 ; } "
        breaks = "add %s from a { n : num 0 .. 2 ; rule not n = %d ; step n to n by same ; } "
        empty = "add %s from a { n : num 0 .. 2 ; rule not n same n ; step n to n by same ; } "
        self.told(start + breaks % ("b", 1) + breaks % ("c", 0), ("breaks", 1, 0, ((0, 0, (1,)),), 1))
        self.told(start + breaks % ("b", 2) + empty % "c", ("breaks", 1, 0, ((0, 0, (2,)),), 1))
        self.told(start + empty % "b" + breaks % ("c", 0), ("empty", 1))
        self.told("open a { n : num 1 .. 401 ; } " + (empty % "b").replace("by same", "by clip"), ("large", 0))

    def test_the_least_row_of_several_states(self):
        start = "open a { n : num 0 .. 5 ; } "
        self.told(start + "add b from a { n : num 0 .. 5 ; rule n = 0 or n = 5 or n = 1 ; step n to n by same ; }",
                  ("breaks", 1, 0, ((0, 0, (2,)),), 1))
        # The least row and not the least state: 5 comes by the first one.
        self.told("open a { n : num 0 .. 2 ; } add b from a { n : num 0 .. 5 ; rule n <= 2 and not n = 0 ; "
                  "step n to n by table [ 5 , 4 , 3 ] [ 2 , 2 , 2 , 2 , 1 , 0 ] ; }", ("breaks", 1, 0, ((0, 0, (0,)),), 1))
        # Fewer deeds come first, even of a later epoch.
        told = verdict(house_of("open a { n : num 0 .. 1 ; } add b from a { m : num 0 .. 1 ; step n to m by apart 0 0 ; } "
                                "add c from b { k : num 0 .. 2 ; step m to k by apart 0 2 ; } retire a ; "
                                "add d from b { j : num 0 .. 1 ; rule j = 0 ; step m to j by clip ; }"))
        self.assertEqual(told, ("breaks", 4, 0, ((1, 1, (1,)),), 3))

    def test_the_first_version(self):
        house = ("open a { n : num 0 .. 2 ; %s } add b from a { n : num 0 .. 2 ; %s step n to n by same ; } "
                 "add c from b { n : num 0 .. 2 ; %s step n to n by same ; }")
        not_one = "rule not n = 1 ;"
        self.told(house % (not_one, not_one, ""), ("breaks", 2, 0, ((2, 2, (1,)),), 0))
        self.told(house % ("", "", not_one), ("breaks", 2, 0, ((0, 0, (1,)),), 2))
        self.told("open a { n : num 0 .. 2 ; rule n <= 1 ; } add b from a { n : num 0 .. 2 ; rule n <= 1 ; step n to n by same ; } retire a ; "
                  "add c from b { n : num 0 .. 2 ; rule n = 0 or n = 2 ; step n to n by same ; }", ("breaks", 3, 0, ((0, 0, (1,)),), 2))
        self.told("open a { n : num 0 .. 2 ; rule n = 0 ; } add b from a { n : num 0 .. 2 ; rule n = 0 ; step n to n by same ; } retire a ; "
                  "add c from b { n : num 0 .. 2 ; rule n = 0 or n = 2 ; step n to n by same ; }", ("breaks", 3, 0, ((3, 2, (2,)),), 1))

    def test_several_deeds_are_needed(self):
        """Each version keeps an m of its own, so what one puts meets what the other one has put."""
        house = house_of(
            "open a { n : num 0 .. 1 ; m : num 0 .. 1 ; rule n = 0 or m = 0 ; } "
            "add b from a { n : num 0 .. 1 ; m : num 0 .. 1 ; rule n = 0 or m = 0 ; step n to n by same ; step m to m by apart 0 0 ; }")
        self.assertEqual(verdict(house), ("breaks", 1, 0, ((0, 0, (0, 1)), (1, 1, (1, 0))), 0))


class Compared(unittest.TestCase):

    def test_a_search_over_rows(self):
        seen = {}
        for told in (dict(many=80, rules=(0, 0, 0, 1)), dict(many=120, first=1000, rules=(0, 1, 2), least_lets=False),
                     dict(many=30, first=3000, events=7), dict(many=60, first=5000, fields=3, events=4, rules=(0, 1, 1)),
                     dict(many=30, first=6000, fields=3, events=5)):
            for house in some_houses(**told):
                own = verdict_by_search(house)
                self.assertEqual(verdict(house), own)
                seen[own[0]] = seen.get(own[0], 0) + 1
                if own[0] == "breaks":
                    seen[len(own[3])] = seen.get(len(own[3]), 0) + 1
        self.assertGreater(min(seen[word] for word in ("let", "breaks", "empty")), 10)
        self.assertGreater(min(seen["large"], seen[2]), 2)


class WhatItMeans(unittest.TestCase):

    def shown(self, house, epoch, row, strand):
        """The living versions whose clients are shown a forbidden part of the strand behind the whole deeds."""
        hall = hall_behind(house, epoch, row)
        found = []
        for version in house.living(epoch):
            whole = hall.read(house.names[version], 7)
            part = part_in(house, strand, version, whole)
            if part not in lets_in(house, strand, version):
                self.assertIs(is_let(house.forms[version], whole), False)
                found.append(version)
        return found

    def test_the_told_row_shows_just_that_in_a_hall(self):
        broken = 0
        for house in some_houses(150, first=7000, rules=(0, 0, 1)):
            told = verdict(house)
            if told[0] != "breaks":
                continue
            broken += 1
            _, epoch, number, row, version = told
            strand = strands_by_links(house, epoch)[number]
            self.assertEqual(self.shown(house, epoch, whole_row(house, strand, row), strand)[0], version)
            # No row with fewer deeds shows a living version a forbidden part of this strand.
            for fewer in itertools.islice(Search(house, epoch, strand).rows(len(row) - 1), 300):
                self.assertEqual(self.shown(house, epoch, whole_row(house, strand, fewer), strand), [])
        self.assertGreater(broken, 40)

    def test_after_let_no_row_does(self):
        rng = random.Random(8)
        tried = 0
        for house in some_houses(80, first=8000, rules=(0, 0, 1)):
            if verdict(house) != ("let",):
                continue
            for epoch in range(len(house.events)):
                for _ in range(8):
                    tried += 1
                    hall = hall_behind(house, epoch, some_whole_row(rng, house, epoch, 6))
                    for version in house.living(epoch):
                        whole = hall.read(house.names[version], 7)
                        self.assertIs(is_let(house.forms[version], whole), True)
        self.assertGreater(tried, 1000)

    def test_after_let_all_short_rows(self):
        house = house_of("open a { n : num 0 .. 2 ; rule not n = 1 ; } "
                         "add b from a { m : num 0 .. 1 ; step n to m by table [ 0 , 0 , 1 ] [ 0 , 2 ] ; } "
                         "add c from b { k : num 0 .. 3 ; rule not k = 3 ; step m to k by clip ; } retire b ;")
        self.assertEqual(verdict(house), ("let",))
        deeds = [(at, version, whole) for at in range(4) for version in house.living(at) for whole in let_wholes(house.forms[version])]
        for many in (1, 2, 3):
            for row in itertools.product(deeds, repeat=many):
                if list(row) == sorted(row, key=lambda deed: deed[0]):
                    hall = hall_behind(house, 3, row)
                    for version in house.living(3):
                        self.assertIs(is_let(house.forms[version], hall.read(house.names[version], 7)), True)

    def test_ask_before_an_add(self):
        """A version that is let ahead leaves the verdict; a version is refused exactly if some row breaks a form."""
        for house in some_houses(60, first=9000, rules=(0, 0, 1)):
            verdicts = [verdict(type(house)(house.events[:many])) for many in range(1, len(house.events) + 1)]
            for ahead, behind in zip(verdicts, verdicts[1:]):
                if ahead != ("let",):
                    self.assertEqual(behind, ahead)
            last = verdict(house)
            if last[0] != "let":
                self.assertEqual(verdicts[last[1]], last)
                self.assertEqual(set(verdicts[:last[1]]), {("let",)} if last[1] else set())

    def test_it_raises_nothing(self):
        for house in some_houses(60, first=9500, rules=(0, 1), fields=3, least_lets=False):
            try:
                verdict(house)
            except TooLarge:
                self.fail("a verdict tells what is too large")


if __name__ == "__main__":
    unittest.main()
