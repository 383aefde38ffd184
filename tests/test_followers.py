"""Followers: promises [61] and [62]."""

import itertools
import unittest

from kept import NOTHING, PAIR, RULED, WORDS, answer_of, new_store, some_deal, some_rng, store_houses, tables_of
from small import LINE, house_of

from telltrove.errors import BadKey, LastEpoch, NoVersion, Retired
from telltrove.followers import Follower
from telltrove.hall import Hall
from telltrove.leaders import Leader
from telltrove.pages import page_of, paper_bytes, papers_of


class Model:
    """What a follower has, from all that it has heard, in whatever order: the newest note about each key counts; the floor is the
    greatest stamp such that all up to it were heard, or are told of by a page note."""

    def __init__(self, house):
        self.house = house
        self.tables = tables_of(house)
        self.epoch = 0
        self.notes = []

    def ripe(self):
        return [note for note in self.notes if note[4] <= self.epoch]

    def waiting(self):
        return len(self.notes) - len(self.ripe())

    def floor(self, page):
        keys = {256 * note[2] + note[3] for note in self.ripe() if note[0] == 0 and note[1] // 4 == page}
        pages = max([256 * note[2] + note[3] for note in self.ripe() if note[0] == 1 and note[1] == page], default=0)
        floor = pages
        while floor + 1 in keys:
            floor += 1
        return floor

    def newest(self, key):
        """The stamp of the newest note about a key, and the codes that it tells."""
        best = (0, None)
        for note in self.ripe():
            stamp = 256 * note[2] + note[3]
            if stamp < best[0] or stamp == 0:
                continue
            if note[0] == 0 and note[1] == key:
                codes = None
                if note[5] == 1:
                    length = paper_bytes(self.tables, note[4])
                    _, (codes, *_) = papers_of(self.tables, (note[4],) + note[6:] + (0,) * (3 * length))
                best = (stamp, self.lifted(note[4], codes))
            elif note[0] == 1 and note[1] == key // 4:
                epoch, papers = papers_of(self.tables, note[4:])
                best = (stamp, self.lifted(epoch, papers[key % 4]))
        return best

    def lifted(self, epoch, codes):
        return None if codes is None else self.tables.lifted(epoch, self.epoch, codes)

    def tombstones(self):
        return tuple(key for key in range(24) if self.newest(key)[1] is None and self.newest(key)[0] > self.floor(key // 4))


def same_follower(test, follower, model):
    test.assertEqual(follower.epoch, model.epoch)
    test.assertEqual(follower.waiting(), model.waiting())
    test.assertEqual(tuple(follower.floor(page) for page in range(6)), tuple(model.floor(page) for page in range(6)))
    papers = tuple(model.newest(key)[1] for key in range(24))
    test.assertEqual(tuple(follower.paper(key) for key in range(24)), papers)
    test.assertEqual(follower.tombstones(), model.tombstones())
    for page in range(6):
        test.assertEqual(follower.page(page), page_of(model.tables, model.epoch, papers[4 * page:4 * page + 4]))
    for version in model.house.living(model.epoch):
        for key, codes in enumerate(papers):
            own = None if codes is None else model.tables.whole(model.epoch, codes, version)
            test.assertEqual(follower.read(model.house.names[version], key), own)


class ByHand(unittest.TestCase):

    def setUp(self):
        self.leader = Leader(new_store(LINE))
        self.follower = Follower(tables_of(LINE))

    def deal(self, *deeds):
        return self.leader.deal(deeds)

    def hear(self, *notes):
        for note in notes:
            self.assertIsNone(self.follower.hear(note))

    def test_new(self):
        self.assertEqual(self.follower.epoch, 0)
        self.assertEqual([self.follower.paper(key) for key in range(24)], [None] * 24)
        self.assertEqual([self.follower.floor(page) for page in range(6)], [0] * 6)
        self.assertEqual([self.follower.page(page) for page in range(6)], [(0, 0, 0, 0, 0)] * 6)
        self.assertEqual(self.follower.tombstones(), ())
        self.assertEqual(self.follower.waiting(), 0)

    def test_notes_in_order(self):
        self.hear(*self.deal(("put", "a", 5, (2,)), ("put", "a", 6, (1,))))
        self.assertEqual(self.follower.read("a", 5), (2,))
        self.assertEqual(self.follower.paper(6), (1,))
        self.assertEqual(self.follower.floor(1), 2)
        self.assertEqual(self.follower.page(1), self.leader.store.disk.blocks[2])
        self.hear(*self.deal(("drop", "a", 5)))
        self.assertIsNone(self.follower.read("a", 5))
        self.assertEqual(self.follower.floor(1), 3)
        self.assertEqual(self.follower.tombstones(), ())

    def test_what_was_dropped_does_not_come_back(self):
        put, = self.deal(("put", "a", 5, (2,)))
        drop, = self.deal(("drop", "a", 5))
        self.hear(drop)
        self.assertEqual(self.follower.tombstones(), (5,))
        self.assertEqual(self.follower.floor(1), 0)
        self.hear(put, put)
        self.assertIsNone(self.follower.paper(5))
        # Nothing elder can come any more, so no tombstone is needed.
        self.assertEqual(self.follower.tombstones(), ())
        self.assertEqual(self.follower.floor(1), 2)
        self.hear(put, drop, put)
        self.assertIsNone(self.follower.paper(5))
        self.assertEqual(self.follower.floor(1), 2)

    def test_tombstones_of_several_keys(self):
        first, = self.deal(("put", "a", 5, (2,)))
        notes = self.deal(("drop", "a", 7), ("drop", "a", 5), ("drop", "a", 23), ("drop", "a", 22))
        self.hear(*notes)
        self.assertEqual(notes, ((0, 5, 0, 2, 0, 0), (0, 7, 0, 3, 0, 0), (0, 22, 0, 1, 0, 0), (0, 23, 0, 2, 0, 0)))
        self.assertEqual(self.follower.tombstones(), (5, 7))
        self.assertEqual([self.follower.floor(page) for page in (1, 5)], [0, 2])
        self.hear(first)
        self.assertEqual(self.follower.tombstones(), ())
        self.assertEqual(self.follower.floor(1), 3)

    def test_tombstones_of_the_first_and_the_last_key(self):
        for key in (0, 23):
            self.deal(("put", "a", key, (1,)))
            drop, = self.deal(("drop", "a", key))
            self.hear(drop)
        self.assertEqual(self.follower.tombstones(), (0, 23))
        self.hear(self.leader.page_note(0))
        self.assertEqual(self.follower.tombstones(), (23,))
        self.hear(self.leader.page_note(5))
        self.assertEqual(self.follower.tombstones(), ())

    def test_an_elder_note_of_another_key_is_taken(self):
        one, = self.deal(("put", "a", 4, (1,)))
        two, = self.deal(("put", "a", 5, (2,)))
        three, = self.deal(("put", "a", 4, (0,)))
        self.hear(three)
        self.assertEqual((self.follower.paper(4), self.follower.paper(5), self.follower.floor(1)), ((0,), None, 0))
        self.hear(two)
        self.assertEqual((self.follower.paper(4), self.follower.paper(5), self.follower.floor(1)), ((0,), (2,), 0))
        # The note about what is newer for the key is passed over, but it is heard: the floor rises over all.
        self.hear(one)
        self.assertEqual((self.follower.paper(4), self.follower.paper(5), self.follower.floor(1)), ((0,), (2,), 3))

    def test_page_notes(self):
        one, = self.deal(("put", "a", 4, (1,)))
        two, = self.deal(("put", "a", 5, (2,)))
        page = self.leader.page_note(1)
        three, = self.deal(("drop", "a", 5))
        four, = self.deal(("put", "a", 6, (0,)))
        self.hear(three)
        self.assertEqual(self.follower.tombstones(), (5,))
        # The page tells of 4 and 6; what the follower has for 5 is newer. The floor rises to 2, and over 3.
        self.hear(page)
        self.assertEqual([self.follower.paper(key) for key in range(4, 8)], [(1,), None, None, None])
        self.assertEqual(self.follower.floor(1), 3)
        self.assertEqual(self.follower.tombstones(), ())
        self.hear(one, two, page, three)
        self.assertEqual([self.follower.paper(key) for key in range(4, 8)], [(1,), None, None, None])
        self.hear(four)
        self.assertEqual([self.follower.paper(key) for key in range(4, 8)], [(1,), None, (0,), None])
        self.assertEqual(self.follower.floor(1), 4)
        self.assertEqual(self.follower.page(1), self.leader.store.disk.blocks[2])

    def test_a_page_note_drops_what_is_elder(self):
        self.hear(*self.deal(("put", "a", 4, (1,)), ("put", "a", 5, (1,))))
        self.deal(("drop", "a", 4))
        self.deal(("put", "a", 5, (2,)))
        self.hear(self.leader.page_note(1))
        self.assertEqual([self.follower.paper(key) for key in (4, 5)], [None, (2,)])
        self.assertEqual(self.follower.floor(1), 4)

    def test_an_elder_page_note_is_passed_over(self):
        self.deal(("put", "a", 4, (1,)))
        page = self.leader.page_note(1)
        zero = self.leader.page_note(0)
        self.hear(zero)
        self.assertEqual(self.follower.floor(0), 0)
        note, = self.deal(("drop", "a", 4))
        self.hear(self.leader.page_note(1), page)
        self.assertEqual((self.follower.paper(4), self.follower.floor(1)), (None, 2))
        self.hear(note)
        self.assertEqual((self.follower.paper(4), self.follower.floor(1)), (None, 2))

    def test_a_page_note_with_the_stamp_of_a_key(self):
        """What the follower has for the key is of the same stamp, so both tell the same."""
        self.deal(("put", "a", 4, (1,)))
        note, = self.deal(("put", "a", 4, (2,)))
        self.hear(note, self.leader.page_note(1))
        self.assertEqual((self.follower.paper(4), self.follower.floor(1)), ((2,), 2))

    def test_waiting_notes(self):
        self.leader.store.go_on()
        one, = self.deal(("put", "b", 5, (1,)))
        self.leader.store.go_on()
        two, = self.deal(("put", "c", 5, (2,)))
        page = self.leader.page_note(1)
        self.hear(one, two, one, page, two)
        self.assertEqual(self.follower.waiting(), 5)
        self.assertEqual((self.follower.paper(5), self.follower.floor(1)), (None, 0))
        self.assertIsNone(self.follower.go_on())
        self.assertEqual((self.follower.epoch, self.follower.waiting()), (1, 3))
        self.assertEqual((self.follower.read("a", 5), self.follower.floor(1)), ((1,), 1))
        self.follower.go_on()
        self.assertEqual((self.follower.epoch, self.follower.waiting()), (2, 0))
        self.assertEqual((self.follower.read("c", 5), self.follower.floor(1)), ((2,), 2))
        self.assertEqual(self.follower.page(1), self.leader.store.disk.blocks[2])

    def test_a_page_note_waits_for_the_epoch_of_its_block(self):
        self.deal(("put", "a", 5, (2,)))
        self.leader.store.go_on()
        self.leader.store.go_on()
        elder = self.leader.page_note(1)
        self.leader.store.batch(6)
        later = self.leader.page_note(1)
        self.hear(later)
        self.assertEqual((self.follower.waiting(), self.follower.paper(5)), (1, None))
        self.hear(elder)
        self.assertEqual((self.follower.waiting(), self.follower.paper(5), self.follower.floor(1)), (1, (2,), 1))

    def test_notes_of_elder_epochs_are_lifted(self):
        one, = self.deal(("put", "a", 5, (2,)))
        two, = self.deal(("put", "a", 9, (2,)))
        page = self.leader.page_note(2)
        for _ in range(2):
            self.follower.go_on()
        self.hear(one, page)
        self.assertEqual([self.follower.paper(key) for key in (5, 9)], [(3,), (3,)])
        self.assertEqual(self.follower.read("c", 9), (1,))
        self.follower.go_on()
        self.assertEqual([self.follower.paper(key) for key in (5, 9)], [(2,), (2,)])
        self.assertEqual(self.follower.page(1), (3, 0, 3, 0, 0))

    def test_high_stamps(self):
        notes = []
        for at in range(515):
            notes += self.deal(("put", "a", 5, (at % 3,)))
        self.hear(notes[513], notes[256], notes[0], notes[512])
        self.assertEqual((self.follower.paper(5), self.follower.floor(1)), ((0,), 1))
        self.hear(self.leader.page_note(1))
        self.assertEqual((self.follower.paper(5), self.follower.floor(1)), ((514 % 3,), 515))
        self.hear(*self.deal(("drop", "a", 5)))
        self.hear(*notes)
        self.assertEqual((self.follower.paper(5), self.follower.floor(1)), (None, 516))

    def test_high_stamps_one_by_one(self):
        for at in range(300):
            self.hear(*self.deal(("put", "a", 8 + at % 4, (at % 3,))))
            self.assertEqual(self.follower.floor(2), at + 1)
            self.assertEqual(self.follower.page(2), self.leader.store.disk.blocks[3])

    def test_errors(self):
        for epoch in range(3):
            with self.assertRaises(NoVersion):
                self.follower.read("zz", 99)
            self.follower.go_on()
        for _ in range(2):
            with self.assertRaises(LastEpoch):
                self.follower.go_on()
            self.assertEqual(self.follower.epoch, 3)
        with self.assertRaises(Retired):
            self.follower.read("c", 99)
        for key in (24, -1, True, None, "5", (5,)):
            with self.assertRaises(BadKey) as caught:
                self.follower.read("a", key)
            self.assertIs(caught.exception.key, key)
        with self.assertRaises(NoVersion):
            Follower(tables_of(LINE)).read("b", 99)

    def test_no_strands(self):
        leader = Leader(new_store(NOTHING))
        follower = Follower(tables_of(NOTHING))
        for note in leader.deal((("put", "a", 0, ((),)), ("put", "a", 1, ((),)), ("drop", "a", 1))):
            follower.hear(note)
        self.assertEqual((follower.paper(0), follower.paper(1)), ((), None))
        follower.go_on()
        self.assertEqual((follower.read("b", 0), follower.read("b", 1)), (((), ()), None))
        self.assertEqual(follower.page(0), (1, 1, 0, 0, 0))


class Orders(unittest.TestCase):

    def test_all_orders_of_a_few_notes(self):
        """In each order, with one note left out or not, the follower has what the model has behind each note."""
        leader = Leader(new_store(LINE))
        notes = list(leader.deal((("put", "a", 4, (1,)), ("put", "a", 5, (2,)))))
        notes.append(leader.page_note(1))
        notes += leader.deal((("drop", "a", 4),))
        notes += leader.deal((("put", "a", 6, (0,)),))
        leader.store.go_on()
        notes.append(leader.page_note(1))
        notes += leader.deal((("drop", "b", 5),))
        for order in itertools.permutations(range(len(notes)), 4):
            follower, model = Follower(tables_of(LINE)), Model(LINE)
            for at in order:
                follower.hear(notes[at])
                model.notes.append(notes[at])
                self.assertEqual([follower.paper(key) for key in range(4, 8)], [model.newest(key)[1] for key in range(4, 8)])
                self.assertEqual(follower.floor(1), model.floor(1))
                self.assertEqual(follower.tombstones(), model.tombstones())
            same_follower(self, follower, model)
            follower.go_on()
            model.epoch += 1
            same_follower(self, follower, model)


class Compared(unittest.TestCase):

    def test_with_a_leader(self):
        seen = {"same": 0, "same page": 0, "waiting": 0, "tombstones": 0, "floors": 0, "late": 0}
        for seed in range(2):
            for house in store_houses() + [PAIR, RULED, WORDS]:
                self.follow(some_rng("followers", seed), house, seen)
        self.assertGreater(min(seen.values()), 100, seen)

    def follow(self, rng, house, seen):
        hall, store = Hall(house), new_store(house)
        leader = Leader(store)
        follower, model = Follower(tables_of(house)), Model(house)
        line, old = [], []
        for _ in range(40):
            choice = rng.random()
            if choice < 0.1 and hall.epoch + 1 < len(house.events):
                hall.go_on()
                store.go_on()
            elif choice < 0.2:
                self.assertEqual(answer_of(follower.go_on), "None" if model.epoch + 1 < len(house.events) else "LastEpoch{}")
                model.epoch = follower.epoch
            elif choice < 0.25:
                store.batch(rng.randrange(3))
            elif choice < 0.4:
                line.append(leader.page_note(rng.randrange(6)))
            elif choice < 0.65:
                deeds = some_deal(rng, house, hall.epoch, range(10), 4)
                hall.deal(deeds)
                line += leader.deal(deeds)
            for _ in range(rng.randrange(4)):
                if line and rng.random() < 0.8:
                    note = line.pop(rng.randrange(len(line)) if rng.random() < 0.5 else 0)
                    old.append(note)
                    if rng.random() < 0.12:
                        continue
                elif old:
                    note = rng.choice(old)
                    seen["late"] += 1
                else:
                    continue
                self.assertIsNone(follower.hear(note))
                model.notes.append(note)
            same_follower(self, follower, model)
            seen["waiting"] += model.waiting() > 0
            seen["tombstones"] += len(model.tombstones()) > 0
            for page in range(6):
                if leader.stamp(page) and follower.floor(page) == leader.stamp(page):
                    self.same_page(hall, store, follower, page, seen)
                    seen["floors"] += 1

    def same_page(self, hall, store, follower, page, seen):
        """The floor of the page is the leader's stamp: the follower has what the leader has."""
        house = hall.house
        if follower.epoch == hall.epoch:
            for key in range(4 * page, 4 * page + 4):
                self.assertEqual(follower.paper(key), store.paper(key))
                for version in house.living(hall.epoch):
                    self.assertEqual(follower.read(house.names[version], key), hall.read(house.names[version], key))
            seen["same"] += 1
            if store.disk.blocks[1 + page][0] == hall.epoch:
                self.assertEqual(follower.page(page), store.disk.blocks[1 + page])
                seen["same page"] += 1

    def test_all_notes_once_in_any_order(self):
        for house in store_houses(12) + [RULED]:
            rng = some_rng("once")
            store = new_store(house)
            leader = Leader(store)
            notes = []
            for epoch in range(len(house.events)):
                for _ in range(4):
                    notes += leader.deal(some_deal(rng, house, epoch))
                if epoch + 1 < len(house.events):
                    store.go_on()
            followers = [Follower(tables_of(house)) for _ in range(3)]
            for follower in followers:
                rng.shuffle(notes)
                for place, note in enumerate(notes):
                    follower.hear(note)
                    if place % (1 + len(notes) // len(house.events)) == 0 and follower.epoch + 1 < len(house.events):
                        follower.go_on()
                while follower.epoch + 1 < len(house.events):
                    follower.go_on()
            store.batch(6)
            for follower in followers:
                self.assertEqual(tuple(follower.page(page) for page in range(6)), store.disk.blocks[1:7])
                self.assertEqual([follower.floor(page) for page in range(6)], [leader.stamp(page) for page in range(6)])
                self.assertEqual((follower.tombstones(), follower.waiting()), ((), 0))

    def test_followers_by_turns(self):
        house = house_of("open a { n : num 0 .. 2 ; } add b from a { n : num 0 .. 2 ; step n to n by rank ; }")
        leaders = [Leader(new_store(house)), Leader(new_store(LINE))]
        followers = [Follower(tables_of(house)), Follower(tables_of(LINE)), Follower(tables_of(house))]
        note, = leaders[0].deal((("put", "a", 3, (2,)),))
        other, = leaders[1].deal((("put", "a", 3, (1,)),))
        followers[0].hear(note)
        followers[1].hear(other)
        self.assertEqual([follower.paper(3) for follower in followers], [(2,), (1,), None])
        followers[0].go_on()
        self.assertEqual([follower.epoch for follower in followers], [1, 0, 0])
        self.assertEqual([follower.floor(0) for follower in followers], [1, 1, 0])


if __name__ == "__main__":
    unittest.main()
