"""Stores at rest: promise [52]."""

import itertools
import unittest

from kept import cut_everywhere, new_store, opened, some_deal, some_rng, store_houses, tables_of
from small import HIDING, LINE, house_of, let_wholes, table_houses, told_apart

from telltrove.disk import Disk
from telltrove.errors import Cut
from telltrove.hall import Hall
from telltrove.store import Store
from telltrove.verdicts import verdict

KEYS = (0, 1, 5)


def history(rng, house, epoch, steps):
    """A hall and a store that come to rest in an epoch; deals and batches of the store are cut and done again."""
    hall = Hall(house)
    disk = Disk()
    store = Store(tables_of(house), disk)
    for _ in range(steps):
        if rng.random() < 0.3 and hall.epoch < epoch:
            hall.go_on()
            store.go_on()
        elif rng.random() < 0.3:
            store = done(rng, house, store, lambda store: store.batch(rng.randrange(3)))
        else:
            deeds = some_deal(rng, house, hall.epoch, KEYS, 3)
            hall.deal(deeds)
            store = done(rng, house, store, lambda store: store.deal(deeds, (0, (rng.randrange(9),))))
    while hall.epoch < epoch:
        hall.go_on()
        store.go_on()
    while not store.at_rest():
        store = done(rng, house, store, lambda store: store.batch(1 + rng.randrange(3)))
    return hall, store


def done(rng, house, store, act):
    """The store behind an act that is cut first, now and then, and then done again where it had not been done."""
    if rng.random() < 0.3:
        before = store.disk.blocks
        cut = opened(house, before, rng.randrange(4))
        try:
            act(cut)
        except Cut:
            pass
        mended = opened(house, cut.disk.blocks)
        if mended.disk.blocks[1:7] != before[1:7]:
            return mended
        store = mended
    act(store)
    return store


def same_for_clients(house, epoch, one, two, known, keys):
    """Whether no row of deeds of living versions tells the papers under some keys of two states of halls apart."""
    papers, others = [{key: state for key, state in told[1] if key in keys} for told in (one, two)]
    if sorted(papers) != sorted(others):
        return False
    for key in papers:
        pair = (papers[key], others[key])
        if pair[0] != pair[1] and pair not in known:
            known[pair] = told_apart(house, epoch, *pair)
        if pair[0] != pair[1] and known[pair]:
            return False
    return True


class Rest(unittest.TestCase):

    def test_pages_are_the_same_exactly_if_no_row_tells_the_papers_apart(self):
        seen = {True: 0, False: 0, "other states": 0}
        houses = store_houses(20) + [house for house in table_houses(20, first=1200, adds=4, retires=3) if verdict(house) == ("let",)]
        for house in houses:
            if max(len(let_wholes(form)) for form in house.forms) > 12:
                continue
            for epoch in {len(house.events) - 1, len(house.events) // 2}:
                rng = some_rng("rest", epoch)
                stores = [history(rng, house, epoch, rng.randrange(1, 7)) for _ in range(10)]
                known = {}
                for (hall, store), (other_hall, other) in itertools.combinations(stores, 2):
                    self.assertEqual(store.epoch, epoch)
                    self.assertTrue(store.at_rest() and other.at_rest())
                    own = same_for_clients(house, epoch, hall.state, other_hall.state, known, range(24))
                    self.assertIs(store.disk.blocks[1:7] == other.disk.blocks[1:7], own)
                    seen[own] += 1
                    for page in range(6):
                        keys = range(4 * page, 4 * page + 4)
                        alike = same_for_clients(house, epoch, hall.state, other_hall.state, known, keys)
                        self.assertIs(store.disk.blocks[1 + page] == other.disk.blocks[1 + page], alike)
                        states = [[pair for pair in told.state[1] if pair[0] in keys] for told in (hall, other_hall)]
                        seen["other states"] += alike and states[0] != states[1]
        self.assertGreater(min(seen.values()), 20, seen)

    def test_what_only_a_retired_version_could_tell_is_gone(self):
        one, two = new_store(LINE), new_store(LINE)
        for store in (one, two):
            store.put("a", 5, (2,))
            store.go_on()
            store.go_on()
        two.put("c", 5, (2,))
        one.batch(6)
        two.batch(6)
        # c tells 1 and 2 apart, but c is retired then.
        self.assertNotEqual(one.disk.blocks[2], two.disk.blocks[2])
        for store in (one, two):
            store.go_on()
            self.assertIs(store.at_rest(), False)
            store.batch(6)
            self.assertIs(store.at_rest(), True)
        self.assertEqual(one.disk.blocks, two.disk.blocks)

    def test_what_is_hidden_stays(self):
        one, two = new_store(HIDING), new_store(HIDING)
        for store in (one, two):
            store.go_on()
            store.put(*(("b", 5, (2,)) if store is two else ("a", 5, (0,))))
            store.go_on()
            store.go_on()
            store.batch(6)
        # Both show 0 to a and c, but a put of 1 by a shows 0 or 1 to c.
        self.assertEqual([store.read(name, 5) for store in (one, two) for name in "ac"], [(0,)] * 4)
        self.assertNotEqual(one.disk.blocks[2], two.disk.blocks[2])
        for store in (one, two):
            store.put("a", 5, (1,))
        self.assertNotEqual(one.read("c", 5), two.read("c", 5))

    def test_a_dropped_paper_leaves_its_page_as_if_it_had_never_been_there(self):
        rng = some_rng("drop")
        for house in store_houses():
            store = new_store(house)
            never = new_store(house)
            for epoch in range(len(house.events)):
                deeds = some_deal(rng, house, epoch, range(0, 8), 6)
                store.deal(deeds)
                for key in range(8):
                    store.drop(house.names[house.living(epoch)[0]], key)
                if rng.random() < 0.5:
                    store.batch(6)
                    never.batch(6)
                    self.assertEqual(store.disk.blocks, never.disk.blocks)
                if epoch + 1 < len(house.events):
                    store.go_on()
                    never.go_on()
            store.batch(6)
            never.batch(6)
            self.assertEqual(store.disk.blocks, never.disk.blocks)

    def test_cut_at_each_write(self):
        """A batch that is cut anywhere and then gone on with comes to the same rest."""
        for house in store_houses(12):
            _, store = history(some_rng("each"), house, len(house.events) - 2, 6)
            store.go_on()
            blocks = store.disk.blocks
            cuts, after = cut_everywhere(lambda store: store.batch(6), blocks, lambda blocks, room: opened(house, blocks, room))
            for cut in cuts:
                again = opened(house, cut)
                again.batch(6)
                self.assertEqual(again.disk.blocks, after)
            two = opened(house, blocks)
            for left in (4, 2, 0):
                self.assertEqual(two.batch(2), left)
            self.assertEqual(two.disk.blocks, after)

    def test_deals_and_batches_commute(self):
        text = "open a { n : num 0 .. 2 ; } add b from a { m : num 0 .. 1 ; step n to m by clip ; }"
        house = house_of(text)
        one, two = new_store(house), new_store(house)
        for store in (one, two):
            store.put("a", 5, (2,))
            store.put("a", 6, (2,))
            store.go_on()
        one.batch(6)
        one.put("b", 5, (0,))
        one.put("b", 5, (1,))
        one.drop("b", 6)
        two.put("a", 5, (1,))
        two.drop("a", 6)
        two.batch(3)
        two.batch(3)
        # Behind 0 and 1 by b, a has 1.
        self.assertEqual(one.disk.blocks, two.disk.blocks)


if __name__ == "__main__":
    unittest.main()
