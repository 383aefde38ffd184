"""The hall: promises [2] and [22]."""

import random
import unittest

from telltrove.errors import BadKey, BadValue, DeedError, LastEpoch, NoVersion, Retired
from telltrove.hall import Hall
from telltrove.houses import House
from telltrove.reading import read_house
from telltrove.spreads import extended, spread

LINE = House(read_house(
    "open a { n : num 0 .. 2 ; } add b from a { m : num 0 .. 1 ; step n to m by clip ; } "
    "add c from b { k : num 0 .. 2 ; step m to k by clip ; } retire c ;"))

RULED = House(read_house("""
open a { n : num 0 .. 3 ; o : opt num 0 .. 1 ; rule not n = 3 ; }
add b from a { n : num 0 .. 3 ; p : num 0 .. 1 ; rule n <= p + 1 ; step n to n by same ; step o to p by must 0 same ; }
retire a ;
add c from b { n : num 0 .. 1 ; step n to n by clip ; step p to none by apart 1 [ ] ; }
"""))

NO_KEYS = (24, -1, 100, 1000000, True, False, None, "", "5", "a", (), (5,), ((),), (True, None))


class Refusals(unittest.TestCase):

    def refused(self, hall, error, told, call, *arguments):
        """The call raises exactly this error, and the hall stays as it is."""
        before = hall.state
        with self.assertRaises(DeedError) as caught:
            call(*arguments)
        self.assertIs(type(caught.exception), error)
        attribute = "key" if error is BadKey else "name"
        self.assertEqual(repr(getattr(caught.exception, attribute)), repr(told))
        self.assertEqual(repr(hall.state), repr(before))

    def deeds(self, hall, error, told, name, key, *wholes):
        """All deeds of this name and key are refused so, and a reading too, alone and behind good deeds."""
        self.refused(hall, error, told, hall.read, name, key)
        self.refused(hall, error, told, hall.drop, name, key)
        self.refused(hall, error, told, hall.deal, (("drop", name, key),))
        self.refused(hall, error, told, hall.tried, (("drop", name, key),))
        for whole in wholes:
            self.puts(hall, error, told, name, key, whole)

    def puts(self, hall, error, told, name, key, whole):
        deed = ("put", name, key, whole)
        self.refused(hall, error, told, hall.put, name, key, whole)
        self.refused(hall, error, told, hall.deal, (deed,))
        self.refused(hall, error, told, hall.tried, (deed,))
        living = hall.house.names[hall.house.living(hall.epoch)[0]]
        front = tuple(("drop", living, other) for other in (3, 4, 5))
        self.refused(hall, error, told, hall.deal, front + (deed,))
        self.refused(hall, error, told, hall.deal, (deed,) + front)
        self.refused(hall, error, told, hall.tried, front + (deed,) + front)

    def later(self, epoch):
        hall = Hall(RULED)
        hall.put("a", 3, (2, (1,)))
        hall.put("a", 5, (1, ()))
        for _ in range(epoch):
            hall.go_on()
        return hall

    def test_no_version(self):
        for epoch, names in ((0, ("b", "c", "", "A", "aa", "num")), (1, ("c", "d")), (3, ("d", "C"))):
            for name in names:
                self.deeds(self.later(epoch), NoVersion, name, name, 5, (0, ()), (0, 0), None)

    def test_retired(self):
        for epoch in (2, 3):
            self.deeds(self.later(epoch), Retired, "a", "a", 5, (0, ()), (3, ()), None)
        self.deeds(self.later(0), NoVersion, "b", "b", 5, (0, 0))

    def test_bad_key(self):
        for key in NO_KEYS:
            self.deeds(self.later(0), BadKey, key, "a", key, (0, ()), (3, ()), None)
            self.deeds(self.later(3), BadKey, key, "b", key, (0, 0), True)

    def test_bad_value(self):
        for whole in ((4, ()), (-1, ()), (0, (2,)), (0, 0), (0,), (0, (), ()), (), None, 0, True, "a", (True, ()), (False, ()), (0, (True,)),
                      (0, None), ((0, ()),), (3, ()), (3, (1,)), ("0", ())):
            self.puts(self.later(0), BadValue, "a", "a", 5, whole)
            self.puts(self.later(0), BadValue, "a", "a", 7, whole)
        for whole in ((2, 0), (3, 1), (3, 0), (0, ()), (1, True), (4, 1)):
            self.puts(self.later(1), BadValue, "b", "b", 5, whole)
        self.later(1).put("b", 5, (2, 1))

    def test_the_first_error_that_is_due(self):
        self.deeds(self.later(2), NoVersion, "c", "c", True, (9,), None)
        self.deeds(self.later(2), NoVersion, "x", "x", 24, (9,), None)
        self.deeds(self.later(2), Retired, "a", "a", 24, (9,), None)
        self.deeds(self.later(2), Retired, "a", "a", None, (9,), None)
        self.deeds(self.later(2), BadKey, 24, "b", 24, (9,), None)
        self.puts(self.later(2), BadValue, "b", "b", 23, (9,))

    def test_the_first_deed_that_is_refused(self):
        hall = self.later(2)
        bad = {NoVersion: ("drop", "x", 5), Retired: ("drop", "a", 5), BadKey: ("drop", "b", 24), BadValue: ("put", "b", 5, (9, 9))}
        tolds = {NoVersion: "x", Retired: "a", BadKey: 24, BadValue: "b"}
        for first in bad:
            for second in bad:
                self.refused(hall, first, tolds[first], hall.deal, (("put", "b", 1, (0, 0)), bad[first], bad[second]))


class Doing(unittest.TestCase):

    def test_the_beginning(self):
        hall = Hall(LINE)
        self.assertEqual(hall.epoch, 0)
        self.assertEqual(hall.state, (0, ()))
        self.assertEqual(hall.present_keys(), ())
        self.assertIsNone(hall.read("a", 0))

    def test_by_hand(self):
        hall = Hall(LINE)
        self.assertIsNone(hall.put("a", 5, (2,)))
        self.assertIsNone(hall.go_on())
        self.assertEqual(hall.epoch, 1)
        self.assertEqual(hall.state, (1, ((5, ((2,), (1,))),)))
        hall.put("b", 5, (1,))
        self.assertEqual(hall.read("a", 5), (2,))
        hall.put("b", 5, (0,))
        self.assertEqual(hall.read("a", 5), (0,))
        hall.put("b", 5, (1,))
        self.assertEqual(hall.read("a", 5), (1,))
        hall.go_on()
        hall.put("c", 5, (2,))
        self.assertEqual(hall.state, (2, ((5, ((1,), (1,), (2,))),)))
        hall.put("c", 6, (2,))
        hall.go_on()
        self.assertEqual(hall.state, (3, ((5, ((1,), (1,), (2,))), (6, ((1,), (1,), (2,))))))
        self.assertEqual(hall.read("b", 5), (1,))

    def test_drop(self):
        hall = Hall(LINE)
        self.assertIs(hall.drop("a", 5), False)
        hall.put("a", 5, (2,))
        hall.put("a", 4, (1,))
        self.assertIs(hall.drop("a", 5), True)
        self.assertIsNone(hall.read("a", 5))
        self.assertEqual(hall.read("a", 4), (1,))
        self.assertIs(hall.drop("a", 5), False)
        self.assertEqual(hall.state, (0, ((4, ((1,),)),)))
        hall.put("a", 5, (0,))
        hall.go_on()
        self.assertIs(hall.drop("b", 5), True)
        hall.put("b", 5, (1,))
        self.assertEqual(hall.read("a", 5), (1,))

    def test_a_paper_that_is_dropped_leaves_nothing(self):
        hall = Hall(LINE)
        hall.go_on()
        hall.put("a", 5, (2,))
        hall.deal((("drop", "a", 5), ("put", "b", 5, (1,))))
        self.assertEqual(hall.read("a", 5), (1,))

    def test_keys(self):
        hall = Hall(LINE)
        for key in (23, 0, 11, 7):
            hall.put("a", key, (key % 3,))
        self.assertEqual(hall.present_keys(), (0, 7, 11, 23))
        self.assertEqual(hall.state, (0, ((0, ((0,),)), (7, ((1,),)), (11, ((2,),)), (23, ((2,),)))))
        for key in range(24):
            hall.put("a", key, (key % 3,))
        self.assertEqual(hall.present_keys(), tuple(range(24)))
        self.assertEqual([hall.read("a", key) for key in range(24)], [(key % 3,) for key in range(24)])

    def test_last_epoch(self):
        hall = Hall(LINE)
        hall.put("a", 1, (2,))
        for epoch in (1, 2, 3):
            hall.go_on()
            self.assertEqual(hall.epoch, epoch)
        state = hall.state
        for _ in range(3):
            with self.assertRaises(LastEpoch):
                hall.go_on()
            self.assertEqual(hall.state, state)
            self.assertEqual(hall.epoch, 3)
        hall.put("b", 1, (0,))
        with self.assertRaises(LastEpoch):
            Hall(House(LINE.events[:1])).go_on()

    def test_a_state_that_is_forbidden_is_kept_and_shown(self):
        house = House(read_house("open a { n : num 0 .. 2 ; } add b from a { m : num 0 .. 2 ; rule not m = 1 ; step n to m by same ; }"))
        hall = Hall(house)
        hall.put("a", 0, (1,))
        hall.go_on()
        self.assertEqual(hall.read("b", 0), (1,))
        with self.assertRaises(BadValue):
            hall.put("b", 0, (1,))
        hall.put("a", 1, (1,))
        self.assertEqual(hall.read("b", 1), (1,))

    def test_what_is_put_back_changes_nothing(self):
        hall = Hall(LINE)
        hall.go_on()
        hall.go_on()
        chance = random.Random(22)
        for _ in range(60):
            name = chance.choice("abc")
            top = 1 if name == "b" else 2
            hall.put(name, chance.randrange(3), (chance.randrange(top + 1),))
            state = hall.state
            for key in hall.present_keys():
                for other in "abc":
                    hall.put(other, key, hall.read(other, key))
                    self.assertEqual(hall.state, state)

    def test_against_spreads(self):
        chance = random.Random(19)
        for _ in range(15):
            hall, papers = Hall(LINE), {}
            for step in range(40):
                epoch = hall.epoch
                name = LINE.names[chance.choice(LINE.living(epoch))]
                key, whole = chance.randrange(4), (chance.randrange(2 if name == "b" else 3),)
                if chance.random() < 0.7:
                    hall.put(name, key, whole)
                    papers[key] = spread(LINE, epoch, papers.get(key), LINE.number_of(name), whole)
                elif chance.random() < 0.8:
                    self.assertIs(hall.drop(name, key), papers.pop(key, None) is not None)
                elif epoch < 3:
                    hall.go_on()
                    papers = {key: extended(LINE, epoch + 1, paper) for key, paper in papers.items()}
                self.assertEqual(hall.state, (hall.epoch, tuple(sorted(papers.items()))))
                self.assertEqual(hall.present_keys(), tuple(sorted(papers)))
                for version in LINE.living(hall.epoch):
                    for key in range(5):
                        told = papers[key][version] if key in papers else None
                        self.assertEqual(hall.read(LINE.names[version], key), told)


class Deals(unittest.TestCase):

    def test_in_order(self):
        hall = Hall(LINE)
        hall.go_on()
        self.assertIsNone(hall.deal(()))
        self.assertEqual(hall.state, (1, ()))
        self.assertIsNone(hall.deal((("put", "a", 1, (2,)), ("put", "b", 1, (1,)))))
        self.assertEqual(hall.state, (1, ((1, ((2,), (1,))),)))
        hall.deal((("put", "b", 1, (0,)), ("put", "b", 1, (1,))))
        self.assertEqual(hall.state, (1, ((1, ((1,), (1,))),)))
        hall.deal((("put", "a", 1, (2,)), ("drop", "b", 1), ("put", "b", 2, (1,)), ("drop", "a", 3), ("put", "a", 0, (0,))))
        self.assertEqual(hall.state, (1, ((0, ((0,), (0,))), (2, ((1,), (1,))))))
        hall.deal((("drop", "a", 0), ("drop", "a", 0), ("put", "a", 0, (1,))))
        self.assertEqual(hall.state, (1, ((0, ((1,), (1,))), (2, ((1,), (1,))))))
        hall.deal(tuple(("put", "a", key, (key % 3,)) for key in range(8)))
        self.assertEqual(hall.present_keys(), tuple(range(8)))
        hall.deal(tuple(("drop", "b", key) for key in range(8)))
        self.assertEqual(hall.state, (1, ()))

    def test_all_or_none(self):
        hall = Hall(LINE)
        hall.put("a", 1, (1,))
        state = hall.state
        good = (("put", "a", 1, (2,)), ("drop", "a", 1), ("put", "a", 2, (0,)), ("put", "a", 3, (1,)), ("drop", "a", 9),
                ("put", "a", 1, (0,)), ("drop", "a", 2))
        for at in range(8):
            with self.assertRaises(BadKey):
                hall.deal(good[:at] + (("drop", "a", 24),) + good[at:])
            self.assertEqual(hall.state, state)
            self.assertEqual(hall.present_keys(), (1,))
            self.assertEqual(hall.read("a", 1), (1,))
        hall.deal(good)
        self.assertEqual(hall.state, (0, ((1, ((0,),)), (3, ((1,),)))))


class States(unittest.TestCase):

    def busy(self):
        hall = Hall(LINE)
        hall.put("a", 5, (2,))
        hall.go_on()
        hall.put("b", 9, (1,))
        return hall

    def test_told_and_taken(self):
        for way in ("assign", "resume"):
            for later in (0, 1, 2):
                hall = self.busy()
                state = hall.state
                for _ in range(later):
                    hall.go_on()
                hall.put("a", 5, (0,))
                hall.put("a", 1, (0,))
                hall.drop("b", 9)
                if way == "assign":
                    hall.state = state
                else:
                    self.assertIsNone(hall.resume(state))
                self.assertEqual(hall.state, state)
                self.assertEqual(hall.epoch, 1)
                self.assertEqual(hall.present_keys(), (5, 9))
                self.assertEqual(hall.read("a", 5), (2,))
                with self.assertRaises(NoVersion):
                    hall.read("c", 5)
                hall.go_on()
                self.assertEqual(hall.state, (2, ((5, ((2,), (1,), (1,))), (9, ((1,), (1,), (1,))))))

    def test_taken_by_another_hall_and_of_a_later_epoch(self):
        one, other = self.busy(), Hall(LINE)
        one.go_on()
        other.put("a", 0, (0,))
        other.resume(one.state)
        self.assertEqual(other.state, one.state)
        other.put("c", 5, (2,))
        self.assertEqual(one.read("c", 5), (1,))
        self.assertEqual(other.read("c", 5), (2,))
        other.state = (0, ())
        self.assertEqual((other.epoch, other.state, other.present_keys()), (0, (0, ()), ()))
        other.state = (3, ((7, ((2,), (1,), (2,))),))
        self.assertEqual(other.read("a", 7), (2,))
        with self.assertRaises(Retired):
            other.read("c", 7)
        with self.assertRaises(LastEpoch):
            other.go_on()

    def test_what_was_told_stays(self):
        hall = self.busy()
        state, keys = hall.state, hall.present_keys()
        kept = (1, ((5, ((2,), (1,))), (9, ((1,), (1,)))))
        hall.put("a", 5, (0,))
        hall.drop("a", 9)
        hall.go_on()
        self.assertEqual(state, kept)
        self.assertEqual(keys, (5, 9))
        self.assertIs(type(state), tuple)
        self.assertIs(type(keys), tuple)

    def test_two_halls_of_one_house(self):
        one, other = Hall(LINE), Hall(LINE)
        one.put("a", 5, (2,))
        self.assertEqual(other.state, (0, ()))
        one.go_on()
        self.assertEqual(other.epoch, 0)
        other.put("a", 5, (1,))
        other.put("a", 6, (1,))
        self.assertEqual(one.state, (1, ((5, ((2,), (1,))),)))
        other.drop("a", 5)
        self.assertEqual(one.present_keys(), (5,))
        self.assertEqual(other.present_keys(), (6,))


class Trials(unittest.TestCase):

    def busy(self):
        hall = Hall(LINE)
        hall.put("a", 5, (2,))
        hall.put("a", 7, (1,))
        hall.go_on()
        return hall

    def change(self, hall):
        hall.put("a", 5, (0,))
        hall.drop("a", 7)
        hall.put("a", 1, (1,))
        hall.go_on()

    def same(self, hall, state):
        self.assertEqual(hall.state, state)
        self.assertEqual(hall.epoch, state[0])
        self.assertEqual(hall.present_keys(), tuple(key for key, _ in state[1]))
        for key, wholes in state[1]:
            self.assertEqual(hall.read("a", key), wholes[0])

    def test_left_in_order(self):
        hall = self.busy()
        state = hall.state
        with hall.trial() as held:
            self.assertIs(held, hall)
            self.same(hall, state)
            self.change(held)
            self.assertEqual(held.state, (2, ((1, ((1,), (1,), (1,))), (5, ((0,), (0,), (0,))))))
        self.same(hall, state)
        hall.put("b", 5, (0,))
        self.assertEqual(hall.read("a", 5), (0,))

    def test_each_kind_of_change_is_taken_back(self):
        for change in (lambda held: held.put("a", 5, (0,)), lambda held: held.put("a", 0, (0,)), lambda held: held.drop("b", 5),
                       lambda held: held.go_on(), lambda held: held.deal((("drop", "a", 5), ("drop", "a", 7))),
                       lambda held: held.resume((0, ())), lambda held: held.resume((3, ((2, ((0,), (0,), (0,))),))),
                       lambda held: held.tried((("drop", "a", 5),)), lambda held: None):
            hall = self.busy()
            state = hall.state
            with hall.trial() as held:
                change(held)
            self.same(hall, state)
        hall = self.busy()
        state = hall.state
        with hall.trial() as held:
            held.state = (0, ())
        self.same(hall, state)

    def test_left_by_an_error(self):
        hall = self.busy()
        state = hall.state
        with self.assertRaises(ZeroDivisionError):
            with hall.trial() as held:
                self.change(held)
                1 // 0
        self.same(hall, state)
        with self.assertRaises(BadKey):
            with hall.trial() as held:
                self.change(held)
                held.drop("a", 24)
        self.same(hall, state)
        with self.assertRaises(LastEpoch):
            with hall.trial() as held:
                for _ in range(5):
                    held.go_on()
        self.same(hall, state)

    def test_left_by_a_return_and_a_break(self):
        def left(hall):
            with hall.trial() as held:
                self.change(held)
                return held.state

        hall = self.busy()
        state = hall.state
        self.assertEqual(left(hall), (2, ((1, ((1,), (1,), (1,))), (5, ((0,), (0,), (0,))))))
        self.same(hall, state)
        for _ in range(3):
            with hall.trial() as held:
                self.change(held)
                break
        self.same(hall, state)
        for _ in range(3):
            with hall.trial() as held:
                self.change(held)
                continue
        self.same(hall, state)

    def test_one_inside_of_another(self):
        hall = self.busy()
        outer = hall.state
        with hall.trial() as held:
            held.put("a", 5, (1,))
            inner = hall.state
            with held.trial() as again:
                self.assertIs(again, hall)
                self.change(again)
                with again.trial():
                    hall.drop("a", 5)
                self.assertEqual(hall.read("a", 5), (0,))
            self.same(hall, inner)
            with self.assertRaises(BadValue):
                with held.trial():
                    hall.go_on()
                    hall.put("a", 5, (9,))
            self.same(hall, inner)
        self.same(hall, outer)

    def test_the_state_when_the_block_is_entered(self):
        hall = self.busy()
        trial = hall.trial()
        hall.put("a", 5, (0,))
        hall.go_on()
        state = hall.state
        with trial as held:
            self.same(hall, state)
            held.drop("a", 5)
        self.same(hall, state)

    def test_a_trial_of_one_hall_leaves_others(self):
        hall, other = self.busy(), self.busy()
        with hall.trial():
            self.change(hall)
            other.put("b", 5, (0,))
        self.assertEqual(other.read("a", 5), (0,))
        self.assertEqual(hall.read("a", 5), (2,))

    def test_tried(self):
        hall = self.busy()
        state = hall.state
        self.assertEqual(hall.tried(()), state)
        self.assertEqual(hall.tried((("put", "b", 5, (0,)), ("drop", "a", 7), ("put", "b", 0, (1,)))),
                         (1, ((0, ((1,), (1,))), (5, ((0,), (0,))))))
        self.same(hall, state)
        self.assertEqual(hall.tried((("drop", "a", 5), ("drop", "a", 7))), (1, ()))
        self.same(hall, state)
        for bad, error in ((("put", "b", 5, (2,)), BadValue), (("drop", "c", 5), NoVersion), (("drop", "a", None), BadKey)):
            with self.assertRaises(error):
                hall.tried((("put", "b", 5, (0,)), bad, ("drop", "a", 7)))
            self.same(hall, state)
        told = hall.tried((("drop", "a", 5),))
        hall.deal((("drop", "a", 5),))
        self.assertEqual(hall.state, told)


if __name__ == "__main__":
    unittest.main()
