"""Stores that are cut: promise [51], and how much is written, of [67]."""

import unittest

from kept import (EMPTY, LINE, NOTHING, PAIR, RULED, cut_everywhere, hall_and_store, new_store, opened, some_deal, some_rng, store_houses,
                  tables_of)
from test_store import is_at_rest_disk, same_papers

from telltrove.disk import Disk
from telltrove.errors import BadKey, BadValue, Cut, NoVersion
from telltrove.hall import Hall
from telltrove.pages import page_of, papers_of
from telltrove.store import Store


def blocks_of_all_openings(house, blocks):
    """The disk behind an opening that is not cut, and behind openings that are cut at each write and done again."""
    told = [opened(house, blocks).disk.blocks]
    for room in range(70):
        disk = Disk(blocks, room)
        try:
            Store(tables_of(house), disk)
        except Cut:
            told.append(opened(house, disk.blocks).disk.blocks)
            continue
        told.append(disk.blocks)
        return told
    raise AssertionError("more than 60 writes in an opening")


def blocks_of_repeated_openings(house, blocks):
    """The disk behind openings with room for one write each, one after the other."""
    for _ in range(99):
        disk = Disk(blocks, 1)
        try:
            Store(tables_of(house), disk)
            return disk.blocks
        except Cut:
            blocks = disk.blocks
    raise AssertionError("it is never mended")


def changed(before, after):
    return len([1 for one, two in zip(before, after) if one != two])


class CutCalls(unittest.TestCase):

    def check(self, house, act, blocks, between=()):
        """Cuts a call everywhere; tells how many writes it makes. between has what may be found besides before and behind."""
        cuts, after = cut_everywhere(act, blocks, lambda blocks, room: opened(house, blocks, room))
        if cuts:
            self.assertEqual(cuts[0], blocks)
        else:
            self.assertEqual(after, blocks)
        rest = [blocks, *between, after]
        last = 0
        for cut in cuts:
            found = blocks_of_all_openings(house, cut)
            self.assertEqual(found, found[:1] * len(found))
            self.assertEqual(blocks_of_repeated_openings(house, cut), found[0])
            self.assertIn(found[0], rest)
            # What was done stays done when there is more room.
            self.assertGreaterEqual(rest.index(found[0]), last)
            last = rest.index(found[0])
        return len(cuts), after

    def test_puts_drops_and_deals(self):
        sizes = set()
        for seed in range(2):
            rng = some_rng("cut", seed)
            for house in store_houses():
                for _ in range(4):
                    hall, store = hall_and_store(rng, house, 6)
                    blocks = store.disk.blocks
                    deeds = some_deal(rng, house, store.epoch)
                    session = rng.choice((None, (1, (4, 5)), (3, ())))
                    writes, after = self.check(house, lambda store: store.deal(deeds, session), blocks)
                    many = changed(blocks, after)
                    sizes.add(many)
                    self.assertLessEqual(writes, 3 * many + 4)
                    self.assertEqual(writes == 0, many == 0)
                    # Without a cut it is what a hall does.
                    hall.deal(deeds)
                    same_papers(self, hall, opened(house, after))
        self.assertGreaterEqual(sizes, {0, 1, 2, 3, 4, 5, 6, 7})

    def test_all_pages_and_a_session(self):
        store = new_store(PAIR)
        store.put("a", 1, (1, (), (), ("y",)))
        deeds = tuple(("put", "a", key, (2, (1,), (), ("x",))) for key in (0, 1, 5, 10, 15, 16, 21, 22))
        writes, after = self.check(PAIR, lambda store: store.deal(deeds, (0, (1, 2, 3))), store.disk.blocks)
        self.assertEqual(changed(store.disk.blocks, after), 7)
        self.assertLessEqual(writes, 25)
        is_at_rest_disk(self, opened(PAIR, after), ((1, 2, 3), (), (), ()))

    def test_single_calls(self):
        store = new_store(LINE)
        store.put("a", 5, (2,))
        store.go_on()
        blocks = store.disk.blocks
        for act in (lambda store: store.put("b", 5, (0,)), lambda store: store.put("b", 5, (1,)), lambda store: store.drop("b", 5),
                    lambda store: store.drop("b", 6), lambda store: store.put("a", 23, (0,)), lambda store: store.go_on(),
                    lambda store: store.deal((), (0, (1,)))):
            writes, after = self.check(LINE, act, blocks)
            self.assertLessEqual(writes, 3 * changed(blocks, after) + 4)
            self.assertEqual(changed(blocks, after), 1)

    def test_going_on(self):
        rng = some_rng("on")
        for house in store_houses():
            hall, store = hall_and_store(rng, house, 6)
            if hall.epoch + 1 == len(house.events):
                continue
            writes, after = self.check(house, lambda store: store.go_on(), store.disk.blocks)
            self.assertEqual(after, ((store.epoch + 1, 0),) + store.disk.blocks[1:])
            self.assertLessEqual(writes, 7)

    def test_batches(self):
        """Cut, a batch has recoded the first k of its pages."""
        rng = some_rng("batch")
        recoded = set()
        for house in store_houses():
            for _ in range(3):
                _, store = hall_and_store(rng, house, 8)
                if store.epoch + 1 < len(house.events):
                    store.go_on()
                blocks = store.disk.blocks
                many = rng.randrange(8)
                elders = [page for page in range(6) if blocks[1 + page][0] < store.epoch]
                steps = [blocks]
                for page in elders[:many]:
                    epoch, papers = papers_of(tables_of(house), blocks[1 + page])
                    lifted = tuple(paper if paper is None else tables_of(house).lifted(epoch, store.epoch, paper) for paper in papers)
                    own = page_of(tables_of(house), store.epoch, lifted)
                    steps.append(steps[-1][:1 + page] + (own,) + steps[-1][2 + page:])
                writes, after = self.check(house, lambda store: store.batch(many), blocks, steps[1:-1])
                self.assertEqual(after, steps[-1])
                self.assertLessEqual(writes, 7 * len(steps))
                recoded.add(len(steps) - 1)
        self.assertGreaterEqual(recoded, {0, 1, 2, 3})

    def test_what_changes_nothing_is_never_cut(self):
        rng = some_rng("nothing")
        for house in store_houses():
            hall, store = hall_and_store(rng, house, 8)
            store.deal((), (0, (7,)))
            store.batch(6)
            quiet = opened(house, store.disk.blocks, 0)
            blocks = quiet.disk.blocks
            for key in range(24):
                for name in [house.names[version] for version in house.living(hall.epoch)]:
                    whole = hall.read(name, key)
                    if whole is None:
                        self.assertIs(quiet.drop(name, key), False)
                        self.assertIsNone(quiet.deal((("drop", name, key),) * 3, (0, (7,))))
                    else:
                        quiet.put(name, key, whole)
                        quiet.deal((("put", name, key, whole),) * 2, (0, (7,)))
            self.assertEqual(quiet.batch(6), 0)
            quiet.deal(())
            quiet.deal((), (1, ()))
            self.assertEqual(quiet.disk.blocks, blocks)

    def test_nothing_is_done_without_any_room(self):
        rng = some_rng("room")
        for house in (LINE, PAIR, RULED):
            hall, store = hall_and_store(rng, house, 5)
            name = house.names[house.living(hall.epoch)[0]]
            free = next(key for key in range(24) if key not in hall.present_keys())
            acts = [lambda store: store.deal((("drop", name, free),), (2, (1, 1)))]
            if hall.epoch + 1 < len(house.events):
                acts.append(lambda store: store.go_on())
            for act in acts:
                cut = opened(house, store.disk.blocks, 0)
                with self.assertRaises(Cut):
                    act(cut)
                self.assertEqual(cut.disk.blocks, store.disk.blocks)

    def test_errors_come_before_cuts(self):
        cut = opened(LINE, new_store(LINE).disk.blocks, 0)
        with self.assertRaises(BadKey):
            cut.put("a", 24, (0,))
        with self.assertRaises(BadValue):
            cut.deal((("put", "a", 1, (0,)), ("put", "a", 1, (3,))), (0, (1,)))
        with self.assertRaises(NoVersion):
            cut.deal((("put", "b", 1, (0,)),), (0, (1,)))


class CutOpenings(unittest.TestCase):

    def test_the_making(self):
        for house in (LINE, PAIR, RULED, NOTHING):
            fresh = new_store(house).disk.blocks
            cuts = 0
            for room in range(70):
                disk = Disk((), room)
                try:
                    Store(tables_of(house), disk)
                except Cut:
                    # Block 0 is written last.
                    self.assertEqual(disk.blocks[0], ())
                    cuts += 1
                    found = blocks_of_all_openings(house, disk.blocks)
                    self.assertEqual(found, [fresh] * len(found))
                    self.assertEqual(blocks_of_repeated_openings(house, disk.blocks), fresh)
                    continue
                break
            self.assertEqual(disk.blocks, fresh)
            self.assertTrue(7 <= cuts <= 60)
            disk = Disk((), 0)
            with self.assertRaises(Cut):
                Store(tables_of(house), disk)
            self.assertEqual(disk.blocks, EMPTY)

    def test_opening_what_is_done_writes_nothing(self):
        rng = some_rng("done")
        for house in store_houses():
            _, store = hall_and_store(rng, house, 8)
            store.deal((), (3, (1, 2)))
            self.assertEqual(opened(house, store.disk.blocks, 0).disk.blocks, store.disk.blocks)

    def test_work_goes_on_behind_cuts(self):
        """A store that is cut now and then, at any write, and opened again, has the papers of the hall."""
        for seed in range(3):
            rng = some_rng("work", seed)
            for house in store_houses():
                hall = Hall(house)
                blocks = new_store(house).disk.blocks
                for _ in range(15):
                    disk = Disk(blocks, rng.choice((0, 1, 2, 3, 5, 8, 13, 40)))
                    before = hall.state
                    try:
                        store = Store(tables_of(house), disk)
                        if rng.random() < 0.3 and hall.epoch + 1 < len(house.events):
                            hall.go_on()
                            store.go_on()
                        elif rng.random() < 0.3:
                            store.batch(rng.randrange(4))
                        else:
                            deeds = some_deal(rng, house, hall.epoch)
                            hall.deal(deeds)
                            store.deal(deeds)
                    except Cut:
                        pass
                    blocks = disk.blocks
                    mended = opened(house, blocks)
                    if not self.has_papers(hall, mended):
                        hall.state = before
                    same_papers(self, hall, mended)
                    is_at_rest_disk(self, mended)
                    if rng.random() < 0.5:
                        blocks = mended.disk.blocks

    def has_papers(self, hall, store):
        if store.epoch != hall.epoch or store.present_keys() != hall.present_keys():
            return False
        papers = dict(hall.state[1])
        return all(store.paper(key) == store.tables.codes(hall.epoch, papers[key]) for key in papers)


if __name__ == "__main__":
    unittest.main()
