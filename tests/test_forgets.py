"""What is forgotten and hidden, and versions that come and go: promises [37], [38] and [40]."""

import itertools
import random
import unittest

from small import (HIDING, LINE, Search, house_of, number_form, some_change, some_form, some_houses, strands_by_links, table_houses,
                   unions_of)

from telltrove.books import book_of
from telltrove.classes import classes_of
from telltrove.errors import BadEvent, TooLarge
from telltrove.forgets import forgotten, hidden
from telltrove.houses import House
from telltrove.recodes import recode
from telltrove.strands import strands_of
from telltrove.tables import Tables
from telltrove.verdicts import verdict

WHOLE = (("n",), ("m",), ("k",))


class Forgotten(unittest.TestCase):

    def test_by_hand(self):
        self.assertEqual(forgotten(LINE, 3), ((0, 1, 2),))
        self.assertEqual(forgotten(HIDING, 3), ((0, 0, 2),))

    def test_several_strands(self):
        house = house_of(
            "open a { n : num 0 .. 3 ; m : num 0 .. 1 ; o : num 0 .. 2 ; p : num 0 .. 2 ; } "
            "add b from a { n : num 0 .. 1 ; m : num 0 .. 1 ; p : num 0 .. 2 ; q : num 0 .. 1 ; step n to n by table [ 0 , 1 , 1 , 0 ] [ 0 , 2 ] ; "
            "step m to m by same ; step o to none by apart 0 [ ] ; step p to p by rank ; step none to q by apart [ ] 0 ; } "
            "retire a ; add c from b { n : num 0 .. 1 ; step n to n by same ; step m to none by apart 0 [ ] ; step p to none by apart 0 [ ] ; "
            "step q to none by apart 0 [ ] ; } retire c ;")
        self.assertEqual(verdict(house), ("let",))
        self.assertEqual(len(strands_of(house, 2)), 5)
        # n: 0 and 3 are one now; m: nothing; o: nothing shows it any more; p: nothing; q stays.
        self.assertEqual(forgotten(house, 2), ((0, 0, 3), (2, 0, 1)))
        self.assertEqual(forgotten(house, 4), ())

    def test_the_least_pair(self):
        text = ("open a { n : num 0 .. 5 ; } "
                "add b from a { m : num 0 .. 2 ; step n to m by table [ 0 , 1 , 2 , 2 , %s ] [ 0 , 1 , 2 ] ; } retire a ;")
        self.assertEqual(forgotten(house_of(text % "1 , 1"), 2), ((0, 1, 4),))
        self.assertEqual(forgotten(house_of(text % "0 , 0"), 2), ((0, 0, 4),))

    def test_nothing_is_forgotten(self):
        house = house_of("open a { n : num 0 .. 2 ; } add b from a { m : num 0 .. 2 ; step n to m by rank ; } "
                         "add c from b { k : num 0 .. 2 ; step m to k by same ; } retire b ; retire a ;")
        self.assertEqual(forgotten(house, 3), ())
        self.assertEqual(forgotten(house, 4), ())
        house = house_of("open a { e : rec { } ; } add b from a { e : rec { } ; } retire a ;")
        self.assertEqual(forgotten(house, 2), ())

    def test_with_what_is_done_to_states(self):
        seen = {0: 0, 1: 0, 2: 0}
        for house in (some_houses(60, first=2900) + table_houses(40, first=700, adds=4, retires=3)
                      + some_houses(60, first=3000, fields=3)):
            if verdict(house) != ("let",):
                continue
            for epoch in range(1, len(house.events)):
                if house.events[epoch][0] != "retire":
                    continue
                told = []
                for number, strand in enumerate(strands_by_links(house, epoch)):
                    laters = dict(classes_of(house, epoch, strand))
                    codes = dict((code, laters[parts]) for parts, code in classes_of(house, epoch - 1, strand))
                    twins = [(c, d) for c, d in itertools.combinations(sorted(codes), 2) if codes[c] == codes[d]]
                    if twins:
                        told.append((number,) + min(twins))
                self.assertEqual(forgotten(house, epoch), tuple(told))
                seen[min(2, len(told))] += 1
                self.assertEqual(strands_of(house, epoch), strands_of(house, epoch - 1))
        self.assertGreater(min(seen.values()), 10)

    def test_the_codes_that_become_one(self):
        for house in table_houses(40, first=800, adds=4, retires=3):
            if verdict(house) != ("let",):
                continue
            for epoch in range(5, 8):
                pairs = dict(recode(house, epoch, strands_of(house, epoch)[0]))
                self.assertEqual(sorted(pairs), [(code,) for code in range(len(pairs))])
                for number, c, d in forgotten(house, epoch):
                    self.assertEqual(number, 0)
                    self.assertLess(c, d)
                    self.assertEqual(pairs[(c,)], pairs[(d,)])
                    below = [pairs[(code,)] for code in range(c)]
                    self.assertEqual(len(set(below)), len(below))
                    self.assertFalse(set(below) & {pairs[(code,)] for code in range(c, len(pairs))})
                    self.assertNotIn(pairs[(c,)], [pairs[(code,)] for code in range(c + 1, d)])


class Hidden(unittest.TestCase):

    def test_by_hand(self):
        for epoch in range(4):
            self.assertIsNone(hidden(LINE, epoch, WHOLE[:LINE.present(epoch)]))
            self.assertIsNone(hidden(LINE, epoch, ((),) * LINE.present(epoch)))
        self.assertEqual(hidden(HIDING, 3, WHOLE), (0, 1))
        self.assertIsNone(hidden(HIDING, 2, WHOLE))
        nothing = house_of("open a { n : num 0 .. 1 ; rule n = 0 ; rule n = 1 ; }")
        self.assertIsNone(hidden(nothing, 0, (("n",),)))

    def test_the_least_pair(self):
        """The leaf p is shown and comes first in the views, so what is hidden comes later."""
        house = house_of(
            "open a { n : num 0 .. 1 ; p : num 0 .. 1 ; } add b from a { m : num 0 .. 3 ; step n to m by table [ 1 , 3 ] [ 0 , 1 , 0 , 1 ] ; "
            "step p to none by apart 0 [ ] ; } add c from b { k : num 0 .. 1 ; step m to k by table [ 0 , 0 , 0 , 1 ] [ 0 , 3 ] ; } retire b ;")
        both = (("n", "p"), ("m",), ("k",))
        views = book_of(house, 3, both)[3]
        self.assertEqual(len(views), 8)
        twins = [(c, d) for c, d in itertools.combinations(range(8), 2) if views[c] == views[d]]
        self.assertEqual(len(twins), 2)
        self.assertEqual(hidden(house, 3, both), min(twins))
        self.assertEqual(hidden(house, 3, (("n",), ("m",), ("k",))), (0, 1))
        self.assertIsNone(hidden(house, 3, (("p",), (), ())))

    def test_with_what_is_done_to_states(self):
        seen = {True: 0, False: 0}
        for house in some_houses(40, first=3200) + table_houses(60, first=900, adds=4, retires=3):
            for epoch in range(len(house.events)):
                for bundle in unions_of(house, epoch, 4):
                    try:
                        codes = classes_of(house, epoch, bundle)
                    except TooLarge as error:
                        with self.assertRaises(TooLarge) as caught:
                            hidden(house, epoch, bundle)
                        self.assertEqual(caught.exception.part, error.part)
                        continue
                    search = Search(house, epoch, bundle)
                    twins = [(c, d) for (one, c), (two, d) in itertools.product(codes, repeat=2)
                             if c < d and search.view(one) == search.view(two)]
                    self.assertEqual(hidden(house, epoch, bundle), min(twins) if twins else None)
                    seen[bool(twins)] += 1
        self.assertGreater(min(seen.values()), 10)


def come_and_gone(house, rng, number):
    """The house with a version that is added and retired again, or None if that does not fit."""
    last = len(house.events) - 1
    parent = rng.choice(house.living(last))
    form = number_form(rng, 2) if number % 2 else some_form(rng, 2, (0, 0, 1))
    try:
        longer = House(house.events + (("add", "zz", house.names[parent], form, some_change(rng, house.forms[parent], form)), ("retire", "zz")))
    except BadEvent:
        return None
    if verdict(longer) != ("let",):
        return None
    elders = strands_by_links(house, last)
    laters = [strand[:house.present(last)] for strand in strands_by_links(longer, last + 1)]
    return longer if all(elder in laters for elder in elders) else None


class CameAndWent(unittest.TestCase):

    def test_by_hand(self):
        house = house_of(
            "open a { n : num 0 .. 2 ; m : num 0 .. 1 ; } add b from a { k : num 0 .. 5 ; o : num 0 .. 3 ; step n to k by clip ; "
            "step m to none by apart 0 [ ] ; step none to o by apart [ ] 2 ; } retire b ;")
        tables = Tables(house)
        self.assertEqual(strands_of(house, 0), ((("n",),), (("m",),)))
        self.assertEqual(strands_of(house, 2), ((("n",), ("k",)), (("m",), ()), ((), ("o",))))
        self.assertEqual([tables.many(epoch) for epoch in range(3)], [(3, 2), (6, 2, 4), (3, 2, 1)])
        for codes in itertools.product(range(3), range(2)):
            self.assertEqual(tables.lifted(0, 2, codes), codes + (0,))
            self.assertEqual(tables.whole(2, codes + (0,), 0), tables.whole(0, codes, 0))

    def test_no_trace(self):
        rng = random.Random(31)
        done = 0
        houses = some_houses(70, first=3400, events=4) + table_houses(40, first=1000, adds=3, retires=2) + [LINE, HIDING]
        for number, house in enumerate(houses):
            if verdict(house) != ("let",):
                continue
            longer = come_and_gone(house, rng, number)
            if longer is None:
                continue
            done += 1
            last = len(house.events) - 1
            elders = strands_of(house, last)
            laters = strands_of(longer, last + 2)
            self.assertEqual(tuple(strand[:house.present(last)] for strand in laters[:len(elders)]), elders)
            self.assertTrue(all(not any(strand[:-1]) for strand in laters[len(elders):]))
            tables = Tables(longer)
            self.assertEqual(tables.many(last + 2), tables.many(last) + (1,) * (len(laters) - len(elders)))
            for at in range(len(elders)):
                self.assertEqual(tables.book(last + 2, at), tables.book(last, at))
            for codes in itertools.islice(itertools.product(*[range(many) for many in tables.many(last)]), 60):
                lifted = tables.lifted(last, last + 2, codes)
                self.assertEqual(lifted, codes + (0,) * (len(laters) - len(elders)))
                for version in house.living(last):
                    self.assertEqual(tables.whole(last + 2, lifted, version), tables.whole(last, codes, version))
        self.assertGreater(done, 60)

    def test_what_joins_strands_leaves_a_trace(self):
        """The promise is told of versions that join no strands: one that does leaves them joined."""
        house = house_of("open a { n : num 0 .. 2 ; m : num 0 .. 1 ; } "
                         "add b from a { k : num 0 .. 0 ; step n , m to k by apart [ 0 , 0 ] 0 ; } retire b ;")
        tables = Tables(house)
        self.assertEqual([tables.many(epoch) for epoch in range(3)], [(3, 2), (6,), (6,)])
        self.assertEqual([tables.lifted(0, 2, codes) for codes in itertools.product(range(3), range(2))], [(code,) for code in range(6)])


if __name__ == "__main__":
    unittest.main()
