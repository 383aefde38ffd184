"""States of papers: promises [2] and [19] to [21]."""

import itertools
import unittest

from telltrove.changes import led_flat, mirrored, related_flats
from telltrove.forms import flat_of, whole_of
from telltrove.houses import House
from telltrove.kinds import size_of, value_at
from telltrove.reading import read_house
from telltrove.spreads import extended, forbidden, in_tune, spread

LINE = House(read_house(
    "open a { n : num 0 .. 2 ; } add b from a { m : num 0 .. 1 ; step n to m by clip ; } "
    "add c from b { k : num 0 .. 2 ; step m to k by clip ; } retire c ;"))

# a is the root; b and d come from a, c and e from b; in the end b and a are retired.
TREE = House(read_house("""
open a { n : num 0 .. 3 ; p : pick { x , y } ; }
add b from a { n : num 0 .. 1 ; q : opt pick { x , y } ; step n to n by clip ; step p to q by some x same ; }
add c from b { h : rec { q : opt pick { x , y } ; n : num 0 .. 1 ; } ; rule not h . n = 1 ;
  step n , q to h . n , h . q by same ; }
retire b ;
add d from a { n : num 0 .. 5 ; e : rec { } ; rule n <= 3 ; step n to n by clip ; step p to none by apart y [ ] ; }
add e from c { r : num 0 .. 1 ; s : pick { x , y } ; rule r = 0 or s = y ; step h . n to r by rank ;
  step h . q to s by must y same ; }
retire a ;
"""))

# Three neighbours of one version, and one without leaves.
STAR = House(read_house("""
open m { t : num 0 .. 2 ; u : num 0 .. 2 ; }
add a from m { t : num 0 .. 4 ; step t to t by clip ; step u to none by apart 1 [ ] ; }
add b from m { u : num 0 .. 4 ; step u to u by clip ; step t to none by apart 1 [ ] ; }
add c from m { e : rec { } ; step t , u to none by apart [ 0 , 2 ] [ ] ; }
retire m ;
"""))
HOUSES = (LINE, TREE, STAR)


def wholes_of(form):
    kinds = [kind for _, kind in form[1]]
    return list(itertools.product(*[[value_at(kind, rank) for rank in range(size_of(kind))] for kind in kinds]))


def led_to(house, start, end, whole, old):
    """The whole of a version that is led from its neighbour's."""
    if house.parents[end] == start:
        change = house.changes[end]
    else:
        change = mirrored(house.changes[start])
    forms = (house.forms[start], house.forms[end])
    before = None if old is None else flat_of(forms[1], old)
    return whole_of(forms[1], led_flat(*forms, change, flat_of(forms[0], whole), before))


def outward(house, epoch, state, version, whole):
    """The spread state, found by going from neighbour to neighbour."""
    present = range(house.present(epoch))
    found = {version: whole}
    while len(found) < len(present):
        for one, two in itertools.permutations(present, 2):
            if one in found and two not in found and (house.parents[two] == one or house.parents[one] == two):
                found[two] = led_to(house, one, two, found[one], None if state is None else state[two])
    return tuple(found[number] for number in present)


def reached(house, epoch, most=400):
    """Some states of an epoch that come of spreading and extending, None among them."""
    states = [None]
    for past in range(epoch + 1):
        if past:
            states = [extended(house, past, state) for state in states]
        seen = set(states)
        for state in states[:60]:
            for version in range(house.present(past)):
                for whole in wholes_of(house.forms[version]):
                    new = spread(house, past, state, version, whole)
                    if new not in seen and len(states) < most:
                        seen.add(new)
                        states.append(new)
    return states


class Spread(unittest.TestCase):

    def test_by_hand(self):
        self.assertEqual(spread(LINE, 2, ((2,), (1,), (1,)), 2, (2,)), ((2,), (1,), (2,)))
        self.assertEqual(spread(LINE, 2, ((2,), (1,), (1,)), 2, (0,)), ((0,), (0,), (0,)))
        self.assertEqual(spread(LINE, 2, ((2,), (1,), (2,)), 0, (1,)), ((1,), (1,), (2,)))
        self.assertEqual(spread(LINE, 2, ((2,), (1,), (2,)), 1, (0,)), ((0,), (0,), (0,)))
        self.assertEqual(spread(LINE, 2, None, 2, (2,)), ((1,), (1,), (2,)))
        self.assertEqual(spread(LINE, 3, None, 1, (1,)), ((1,), (1,), (1,)))
        self.assertEqual(spread(LINE, 1, None, 0, (2,)), ((2,), (1,)))
        self.assertEqual(spread(LINE, 0, None, 0, (2,)), ((2,),))
        self.assertEqual(spread(LINE, 0, ((1,),), 0, (2,)), ((2,),))

    def test_a_tree_by_hand(self):
        self.assertEqual(spread(TREE, 5, None, 0, (3, "x")),
                         ((3, "x"), (1, ("x",)), ((("x",), 1),), (3, ()), (1, "x")))
        self.assertEqual(spread(TREE, 5, None, 4, (1, "y")),
                         ((1, "y"), (1, ("y",)), ((("y",), 1),), (1, ()), (1, "y")))
        state = ((3, "x"), (1, ()), (((), 1),), (5, ()), (1, "y"))
        self.assertIs(in_tune(TREE, 5, state), True)
        self.assertEqual(spread(TREE, 5, state, 0, (3, "x")), state)
        self.assertEqual(spread(TREE, 5, state, 2, (((), 0),)), ((0, "x"), (0, ()), (((), 0),), (0, ()), (0, "y")))
        self.assertEqual(spread(TREE, 5, state, 3, (4, ())), ((3, "x"), (1, ()), (((), 1),), (4, ()), (1, "y")))
        self.assertEqual(spread(TREE, 5, state, 4, (1, "x")), ((3, "x"), (1, ("x",)), ((("x",), 1),), (5, ()), (1, "x")))
        self.assertEqual(spread(TREE, 6, state, 0, (2, "y")), ((2, "y"), (1, ("y",)), ((("y",), 1),), (2, ()), (1, "y")))

    def test_against_going_outward(self):
        for house in HOUSES:
            for epoch in range(len(house.events)):
                for state in reached(house, epoch, 40)[:25]:
                    for version in range(house.present(epoch)):
                        for whole in wholes_of(house.forms[version]):
                            told = spread(house, epoch, state, version, whole)
                            self.assertEqual(told, outward(house, epoch, state, version, whole), (epoch, state, version))
                            self.assertEqual(told[version], whole)
                            self.assertEqual(len(told), house.present(epoch))

    def test_states_that_are_reached_are_in_tune_and_stay(self):
        for house in HOUSES:
            for epoch in range(len(house.events)):
                for state in reached(house, epoch, 80)[1:]:
                    self.assertIs(in_tune(house, epoch, state), True)
                    for version in range(house.present(epoch)):
                        self.assertEqual(spread(house, epoch, state, version, state[version]), state)


class Extended(unittest.TestCase):

    def test_by_hand(self):
        self.assertIsNone(extended(LINE, 1, None))
        self.assertIsNone(extended(LINE, 3, None))
        self.assertEqual(extended(LINE, 1, ((2,),)), ((2,), (1,)))
        self.assertEqual(extended(LINE, 2, ((2,), (1,))), ((2,), (1,), (1,)))
        self.assertEqual(extended(LINE, 3, ((2,), (1,), (2,))), ((2,), (1,), (2,)))
        self.assertEqual(extended(TREE, 2, ((3, "x"), (1, ()))), ((3, "x"), (1, ()), (((), 1),)))
        self.assertEqual(extended(TREE, 3, ((3, "x"), (1, ()), (((), 1),))), ((3, "x"), (1, ()), (((), 1),)))
        self.assertEqual(extended(TREE, 4, ((3, "x"), (1, ()), (((), 1),))), ((3, "x"), (1, ()), (((), 1),), (3, ())))
        self.assertEqual(extended(TREE, 5, ((3, "x"), (1, ()), (((), 1),), (5, ()))),
                         ((3, "x"), (1, ()), (((), 1),), (5, ()), (1, "y")))

    def test_states_stay_in_tune(self):
        for house in HOUSES:
            for epoch in range(1, len(house.events)):
                for state in reached(house, epoch - 1, 60):
                    later = extended(house, epoch, state)
                    if state is None:
                        self.assertIsNone(later)
                        continue
                    self.assertEqual(later[:len(state)], state)
                    self.assertEqual(len(later), house.present(epoch))
                    self.assertIs(in_tune(house, epoch, later), True)


class InTune(unittest.TestCase):

    def test_by_hand(self):
        for state, told in ((((2,), (1,), (1,)), True), (((2,), (1,), (2,)), True), (((2,), (0,), (0,)), False),
                            (((1,), (1,), (0,)), False), (((0,), (0,), (0,)), True), (((0,), (1,), (1,)), False),
                            (((0,), (0,), (1,)), False), (((2,), (1,), (0,)), False)):
            self.assertIs(in_tune(LINE, 2, state), told, state)
            self.assertIs(in_tune(LINE, 3, state), told, state)
        self.assertIs(in_tune(LINE, 0, ((2,),)), True)
        self.assertIs(in_tune(LINE, 1, ((2,), (1,))), True)
        self.assertIs(in_tune(LINE, 1, ((2,), (0,))), False)
        good = ((3, "x"), (1, ()), (((), 1),), (5, ()), (1, "y"))
        self.assertIs(in_tune(TREE, 6, good), True)
        for place, whole in ((0, (0, "x")), (0, (3, "y")), (1, (0, ())), (1, (1, ("x",))), (2, (((), 0),)), (2, ((("x",), 1),)),
                             (3, (2, ())), (4, (1, "x")), (4, (0, "y"))):
            self.assertIs(in_tune(TREE, 6, good[:place] + (whole,) + good[place + 1:]), False, (place, whole))
        self.assertIs(in_tune(TREE, 6, good[:3] + ((4, ()),) + good[4:]), True)

    def test_all_states(self):
        for house, epoch in ((LINE, 1), (LINE, 3), (STAR, 2)):
            flats = [[flat_of(form, whole) for whole in wholes_of(form)] for form in house.forms[:house.present(epoch)]]
            seen = {True: 0, False: 0}
            for chosen in itertools.product(*flats):
                told = all(related_flats(house.forms[house.parents[child]], house.forms[child], house.changes[child],
                                         chosen[house.parents[child]], chosen[child]) for child in range(1, len(chosen)))
                state = tuple(whole_of(form, flat) for form, flat in zip(house.forms, chosen))
                seen[told] += 1
                self.assertIs(in_tune(house, epoch, state), told)
            self.assertGreater(min(seen.values()), 2)


class Forbidden(unittest.TestCase):

    def test_by_hand(self):
        self.assertEqual(forbidden(LINE, 3, ((2,), (1,), (2,))), ())
        state = ((3, "x"), (1, ("x",)), ((("x",), 1),), (3, ()), (1, "x"))
        self.assertEqual(forbidden(TREE, 5, state), (2, 4))
        self.assertEqual(forbidden(TREE, 6, state), (2, 4))
        self.assertEqual(forbidden(TREE, 6, state[:3] + ((5, ()),) + state[4:]), (2, 3, 4))
        self.assertEqual(forbidden(TREE, 6, state[:3] + ((4, ()), (1, "y"))), (2, 3))
        self.assertEqual(forbidden(TREE, 6, ((0, "x"), (0, ()), (((), 0),), (0, ()), (0, "y"))), ())
        self.assertEqual(forbidden(TREE, 2, state[:3]), (2,))
        self.assertEqual(forbidden(TREE, 1, state[:2]), ())
        self.assertEqual(forbidden(TREE, 4, state[:3] + ((5, ()),)), (2, 3))

    def test_retired_versions_are_not_asked(self):
        house = House(read_house("open a { n : num 0 .. 2 ; rule n = 0 ; } add b from a { n : num 0 .. 2 ; rule not n = 2 ; "
                                 "step n to n by same ; } add c from b { n : num 0 .. 2 ; step n to n by same ; } retire a ; retire b ;"))
        for number, told in ((0, ((), (), (), ())), (1, ((0,), (0,), (), ())), (2, ((0, 1), (0, 1), (1,), ()))):
            wholes = ((number,),) * 3
            self.assertEqual(forbidden(house, 1, wholes[:2]), told[0])
            self.assertEqual(forbidden(house, 2, wholes), told[1])
            self.assertEqual(forbidden(house, 3, wholes), told[2])
            self.assertEqual(forbidden(house, 4, wholes), told[3])


if __name__ == "__main__":
    unittest.main()
