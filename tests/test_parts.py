"""Parts and part states, and how they are spread and extended: promise [24]."""

import random
import unittest

from small import (LINE, house_of, let_wholes, lets_in, part_in, some_houses, some_whole_row, state_behind, strands_by_links, union,
                   unions_of, values_of)

from telltrove.bundles import extended_part, spread_part
from telltrove.errors import TooLarge
from telltrove.forms import leaves_of, whole_of
from telltrove.letting import is_let
from telltrove.parts import joined, let_parts_of, part_of, part_state
from telltrove.spreads import extended, spread

DEEP = house_of(
    "open a { h : rec { b : num 0 .. 2 ; a : rec { x : opt num 0 .. 1 ; } ; } ; e : rec { } ; n : num 0 .. 3 ; rule n <= h . b + 0 ; } "
    "add b from a { o : opt num 0 .. 1 ; l : rec { n : num 0 .. 3 ; m : num 0 .. 2 ; } ; step n to l . n by same ; "
    "step h . b to l . m by same ; step h . a . x to o by same ; } retire a ;")
BOTH = (("h.b", "n"), ("l.n", "l.m"))
OTHER = (("h.a.x",), ("o",))


class Parts(unittest.TestCase):

    def test_part_of(self):
        whole = ((2, ((1,),)), (), 1)
        self.assertEqual(part_of(DEEP, BOTH, 0, whole), (2, 1))
        self.assertEqual(part_of(DEEP, OTHER, 0, whole), ((1,),))
        self.assertEqual(part_of(DEEP, ((), ()), 0, whole), ())
        self.assertEqual(part_of(DEEP, (("h.b", "h.a.x", "n"), ("o", "l.n", "l.m")), 0, whole), (2, (1,), 1))
        self.assertEqual(part_of(DEEP, BOTH, 1, ((0,), (3, 2))), (3, 2))
        self.assertEqual(part_of(DEEP, OTHER, 1, ((), (3, 2))), ((),))
        self.assertEqual(part_of(DEEP, BOTH[:1], 0, whole), (2, 1))

    def test_part_state(self):
        state = (((2, ((1,),)), (), 1), ((1,), (1, 2)))
        self.assertEqual(part_state(DEEP, BOTH, state), ((2, 1), (1, 2)))
        self.assertEqual(part_state(DEEP, OTHER, state), (((1,),), ((1,),)))
        self.assertEqual(part_state(DEEP, ((), ()), state), ((), ()))
        self.assertEqual(part_state(DEEP, OTHER[:1], state[:1]), (((1,),),))
        for bundle in (BOTH, OTHER, ((), ())):
            self.assertIsNone(part_state(DEEP, bundle, None))

    def test_let_parts_of(self):
        self.assertEqual(let_parts_of(DEEP, BOTH, 0), tuple((b, n) for b in range(3) for n in range(4) if n <= b))
        self.assertEqual(let_parts_of(DEEP, BOTH, 1), tuple((n, m) for n in range(4) for m in range(3)))
        self.assertEqual(let_parts_of(DEEP, OTHER, 1), (((),), ((0,),), ((1,),)))
        self.assertEqual(let_parts_of(DEEP, ((), ()), 0), ((),))
        self.assertEqual(let_parts_of(DEEP, OTHER[:1], 0), (((),), ((0,),), ((1,),)))
        none = house_of("open a { n : num 0 .. 1 ; m : num 0 .. 1 ; rule n = 0 ; rule n = 1 ; }")
        self.assertEqual(let_parts_of(none, (("n",),), 0), ())
        self.assertEqual(let_parts_of(none, (("m",),), 0), ((0,), (1,)))
        self.assertEqual(let_parts_of(none, ((),), 0), ((),))
        self.assertEqual(let_parts_of(none, (("n", "m"),), 0), ())

    def test_let_parts_of_small_houses(self):
        for house in some_houses(60, fields=3, rules=(0, 1, 2), least_lets=False):
            last = len(house.events) - 1
            for bundle in unions_of(house, last):
                for version in range(house.present(last)):
                    self.assertEqual(let_parts_of(house, bundle, version), tuple(lets_in(house, bundle, version)))

    def test_400_and_401_parts(self):
        house = house_of(
            "open a { n : num 1 .. 400 ; m : num 1 .. 401 ; p : num 1 .. 20 ; q : num 1 .. 20 ; r : num 1 .. 21 ; z : num 1 .. 1 ; "
            "rule m <= 3 ; rule r <= 1 ; }")
        self.assertEqual(len(let_parts_of(house, (("n",),), 0)), 400)
        self.assertEqual(len(let_parts_of(house, (("n", "z"),), 0)), 400)
        self.assertEqual(len(let_parts_of(house, (("p", "q"),), 0)), 400)
        self.assertEqual(let_parts_of(house, (("r",),), 0), ((1,),))
        for paths in (("m",), ("p", "r"), ("m", "z"), ("p", "q", "r"), ("n", "p"), ("n", "m", "p", "q", "r", "z")):
            with self.assertRaises(TooLarge) as caught:
                let_parts_of(house, (paths,), 0)
            self.assertEqual(caught.exception.part, "part")
        whole = (400, 401, 20, 20, 21, 1)
        self.assertEqual(part_of(house, (("n", "m"),), 0, whole), (400, 401))
        self.assertEqual(spread_part(house, (("n", "m"),), None, 0, (400, 401)), ((400, 401),))


class Joined(unittest.TestCase):

    def test_by_hand(self):
        self.assertEqual(joined(DEEP, 1, 0, ((2, 1), ((1,),))), ((2, ((1,),)), (), 1))
        self.assertEqual(joined(DEEP, 2, 1, ((1, 2), ((),))), ((), (1, 2)))
        self.assertEqual(joined(DEEP, 0, 0, ((2, 1), ((1,),))), ((2, ((1,),)), (), 1))
        self.assertEqual(joined(house_of("open a { e : rec { f : rec { } ; } ; g : rec { } ; }"), 0, 0, ()), (((),), ()))
        house = house_of("open a { n : num 0 .. 1 ; } add b from a { m : num 0 .. 1 ; step n to none by apart 0 [ ] ; "
                         "step none to m by apart [ ] 0 ; }")
        self.assertEqual(joined(house, 1, 0, ((1,), ())), (1,))
        self.assertEqual(joined(house, 1, 1, ((), (1,))), (1,))

    def test_the_other_way_round_of_part_of(self):
        for house in some_houses(40, events=5, fields=3):
            for epoch in range(len(house.events)):
                strands = strands_by_links(house, epoch)
                for version in range(house.present(epoch)):
                    form = house.forms[version]
                    for whole in wholes_of(form)[:60]:
                        parts = tuple(part_of(house, strand, version, whole) for strand in strands)
                        self.assertEqual(parts, tuple(part_in(house, strand, version, whole) for strand in strands))
                        self.assertEqual(joined(house, epoch, version, parts), whole)

    def test_a_whole_is_let_if_all_its_parts_are(self):
        seen = {True: 0, False: 0}
        for house in some_houses(60, events=4, fields=3, rules=(1, 2)):
            last = len(house.events) - 1
            strands = strands_by_links(house, last)
            for version in range(house.present(last)):
                lets = [let_parts_of(house, strand, version) for strand in strands]
                for whole in wholes_of(house.forms[version])[:80]:
                    told = all(part_of(house, strand, version, whole) in let for strand, let in zip(strands, lets))
                    self.assertIs(is_let(house.forms[version], whole), told)
                    seen[told] += 1
        self.assertGreater(min(seen.values()), 100)


def wholes_of(form):
    flats = [()]
    for _, kind in leaves_of(form):
        flats = [flat + (value,) for flat in flats for value in values_of(kind)]
    return [whole_of(form, flat) for flat in flats]


class Bundles(unittest.TestCase):

    def test_by_hand(self):
        bundle = (("n",), ("m",), ("k",))
        self.assertEqual(spread_part(LINE, bundle, ((2,), (1,), (1,)), 2, (2,)), ((2,), (1,), (2,)))
        self.assertEqual(spread_part(LINE, bundle, None, 2, (2,)), ((1,), (1,), (2,)))
        self.assertEqual(spread_part(LINE, bundle[:2], None, 0, (2,)), ((2,), (1,)))
        self.assertEqual(spread_part(LINE, ((), (), ()), None, 1, ()), ((), (), ()))
        self.assertEqual(spread_part(LINE, ((), ()), ((), ()), 0, ()), ((), ()))
        self.assertIsNone(extended_part(LINE, 1, bundle[:2], None))
        self.assertIsNone(extended_part(LINE, 3, bundle, None))
        self.assertEqual(extended_part(LINE, 1, bundle[:2], ((2,),)), ((2,), (1,)))
        self.assertEqual(extended_part(LINE, 2, bundle, ((2,), (1,))), ((2,), (1,), (1,)))
        self.assertEqual(extended_part(LINE, 3, bundle, ((2,), (1,), (2,))), ((2,), (1,), (2,)))
        self.assertEqual(extended_part(LINE, 1, ((), ()), ((),)), ((), ()))

    def test_what_comes_of_no_leaves(self):
        house = house_of("open a { e : num 0 .. 1 ; } add b from a { m : num 0 .. 2 ; o : num 0 .. 2 ; step none to m by apart [ ] 2 ; "
                         "step none to o by apart [ ] 1 ; step e to none by apart 0 [ ] ; }")
        bundle = ((), ("m",))
        self.assertEqual(extended_part(house, 1, bundle, ((),)), ((), (2,)))
        self.assertEqual(spread_part(house, bundle, None, 0, ()), ((), (2,)))
        self.assertEqual(spread_part(house, bundle, ((), (0,)), 0, ()), ((), (0,)))
        self.assertEqual(spread_part(house, bundle, ((), (0,)), 1, (1,)), ((), (1,)))
        self.assertEqual(spread_part(house, ((), ("m", "o")), None, 0, ()), ((), (2, 1)))

    def test_a_retired_version_is_led_to(self):
        bundle = (("n",), ("m",), ("k",))
        self.assertEqual(spread_part(LINE, bundle, ((2,), (1,), (2,)), 0, (0,)), ((0,), (0,), (0,)))

    def test_the_part_of_what_is_done_whole(self):
        """Against telltrove.spreads, for states that whole deeds reach."""
        rng = random.Random(5)
        seen = set()
        for house in some_houses(70, events=5, fields=3):
            for epoch in range(len(house.events)):
                bundles = unions_of(house, epoch)
                state = state_behind(house, epoch, some_whole_row(rng, house, epoch))
                for _ in range(6):
                    version = rng.randrange(house.present(epoch))
                    whole = rng.choice(wholes_of(house.forms[version]))
                    old = rng.choice((state, None))
                    after = spread(house, epoch, old, version, whole)
                    for bundle in bundles:
                        told = spread_part(house, bundle, part_state(house, bundle, old), version, part_of(house, bundle, version, whole))
                        self.assertEqual(told, part_state(house, bundle, after))
                        seen.add((house, bundle, told))
                    state = after
                if epoch + 1 < len(house.events):
                    later = extended(house, epoch + 1, state)
                    for bundle in unions_of(house, epoch + 1):
                        part = part_state(house, bundle[:house.present(epoch)], state)
                        self.assertEqual(extended_part(house, epoch + 1, bundle, part), part_state(house, bundle, later))
                        self.assertIsNone(extended_part(house, epoch + 1, bundle, None))
        self.assertGreater(len(seen), 500)

    def test_leaves_elsewhere_do_not_matter(self):
        for house in some_houses(30, events=4, fields=3):
            last = len(house.events) - 1
            strands = strands_by_links(house, last)
            if len(strands) < 2 or not house.forms[0][1]:
                continue
            whole = let_wholes(house.forms[0])[0]
            state = spread(house, last, None, 0, whole)
            for number, strand in enumerate(strands):
                alone = spread_part(house, strand, None, 0, part_of(house, strand, 0, whole))
                for other in strands[:number] + strands[number + 1:]:
                    both = union(house, last, (strand, other))
                    told = spread_part(house, both, None, 0, part_of(house, both, 0, whole))
                    self.assertEqual(told, part_state(house, both, state))
                    self.assertEqual(alone, part_state(house, strand, state))


if __name__ == "__main__":
    unittest.main()
