"""What grows, and how far: promise [67], as far as it can be counted."""

import itertools
import unittest

from kept import RULED, WORDS, hall_and_store, new_store, opened, some_deal, some_rng, store_houses, tables_of
from small import LINE, house_of, some_houses, strands_by_links, table_houses

from telltrove.books import book_of
from telltrove.classes import classes_of
from telltrove.codepapers import code_paper
from telltrove.disk import Disk
from telltrove.errors import Cut, TooLarge
from telltrove.indexes import Index
from telltrove.leaders import Leader
from telltrove.partings import parting
from telltrove.reach import reached
from telltrove.service import Service
from telltrove.store import Store
from telltrove.tables import Tables
from telltrove.verdicts import verdict


class CountingDisk(Disk):
    """A disk that notes which blocks are written."""

    def __init__(self, blocks=(), room=None):
        super().__init__(blocks, room)
        self.noted = []

    def write(self, number, block):
        super().write(number, block)
        self.noted.append(number)


def counting_store(house, blocks):
    store = Store(tables_of(house), CountingDisk(blocks))
    store.disk.noted.clear()
    return store


def changed(before, after):
    return [number for number in range(32) if before[number] != after[number]]


class States(unittest.TestCase):

    def test_rows_and_partings(self):
        longest = 0
        for house in store_houses() + some_houses(30, first=6600, rules=(0, 1)) + table_houses(10, first=250, adds=4, retires=2):
            for strand in strands_by_links(house, len(house.events) - 1):
                bundles = [strand[:house.present(epoch)] for epoch in range(len(house.events))]
                states = 0
                for epoch, bundle in enumerate(bundles):
                    try:
                        rows = reached(house, epoch, bundle)
                    except TooLarge:
                        break
                    self.assertLessEqual(len(rows), 60)
                    states += len(rows)
                    self.assertLessEqual(max([len(row) for _, row in rows], default=0), states)
                    book = book_of(house, epoch, bundle)
                    many = len(book[3])
                    self.assertLessEqual(many, len(rows))
                    pairs = many * (many - 1) // 2
                    for c, d in itertools.combinations(range(min(many, 8)), 2):
                        self.assertLessEqual(len(parting(book, c, d)), pairs)
                        longest = max(longest, len(parting(book, c, d)))
                    self.assertEqual(len(code_paper(house, epoch, bundle)[3]), pairs)
        self.assertGreaterEqual(longest, 1)

    def test_sixty_states_and_one_more(self):
        sixty = house_of("open a { n : num 0 .. 59 ; } add b from a { n : num 0 .. 59 ; step n to n by rank ; } retire a ;")
        strand, = strands_by_links(sixty, 2)
        self.assertEqual(len(reached(sixty, 2, strand)), 60)
        self.assertEqual(len(classes_of(sixty, 2, strand)), 60)
        self.assertEqual(verdict(sixty), ("let",))
        more = house_of("open a { n : num 0 .. 60 ; }")
        with self.assertRaises(TooLarge):
            reached(more, 0, (("n",),))
        self.assertEqual(verdict(more), ("large", 0))

    def test_many_large_strands(self):
        """As many versions, leaves and states as there can be, one after the other."""
        names = "abcdef"
        leaves = "ghijkl"
        fields = " ".join(f"{leaf} : num 0 .. 59 ;" for leaf in leaves)
        steps = " ".join(f"step {leaf} to {leaf} by rank ;" for leaf in leaves)
        text = f"open a {{ {fields} }} " + " ".join(f"add {name} from {elder} {{ {fields} {steps} }}" for elder, name in zip(names, names[1:]))
        house = house_of(text + " retire a ; retire c ; retire f ;")
        store = Store(Tables(house), Disk())
        store.put("a", 23, (59,) * 6)
        for _ in range(8):
            store.go_on()
        self.assertEqual(store.read("e", 23), (59,) * 6)
        self.assertEqual(store.batch(6), 0)
        self.assertEqual(store.paper(23), (59,) * 6)


class Writes(unittest.TestCase):

    def test_deals(self):
        sizes = set()
        for seed in range(3):
            rng = some_rng("deals", seed)
            for house in store_houses() + [WORDS]:
                _, store = hall_and_store(rng, house, 5)
                for _ in range(6):
                    counted = counting_store(house, store.disk.blocks)
                    before = counted.disk.blocks
                    deeds, session = some_deal(rng, house, store.epoch), rng.choice((None, (0, (rng.randrange(4),)), (2, ())))
                    counted.deal(deeds, session)
                    many = len(changed(before, counted.disk.blocks))
                    self.assertLessEqual(len(counted.disk.noted), 3 * many + 4)
                    if many == 0:
                        self.assertEqual(counted.disk.noted, [])
                    sizes.add(many)
                    store = opened(house, counted.disk.blocks)
        self.assertGreaterEqual(sizes, {0, 1, 2, 3, 4, 5, 6})

    def test_openings(self):
        for house in (LINE, RULED, WORDS):
            disk = CountingDisk()
            Store(tables_of(house), disk)
            self.assertLessEqual(len(disk.noted), 60)
            store = Store(tables_of(house), disk)
            store.go_on()
            name = house.names[house.living(1)[0]]
            deeds = tuple(("drop", name, key) for key in range(0, 24, 3))
            for room in range(40):
                cut = Disk(store.disk.blocks, room)
                try:
                    Store(tables_of(house), cut).deal(deeds, (1, (2, 3)))
                except Cut:
                    pass
                mended = CountingDisk(cut.blocks)
                Store(tables_of(house), mended)
                self.assertLessEqual(len(mended.noted), 60)

    def test_a_page_is_recoded_at_most_once_for_each_event(self):
        for house in store_houses():
            store = counting_store(house, new_store(house).disk.blocks)
            name = house.names[0]
            store.put(name, 9, tables_of(house).whole(0, (0,) * len(tables_of(house).many(0)), 0))
            store.disk.noted.clear()
            for epoch in range(1, len(house.events)):
                store.go_on()
                for _ in range(3):
                    store.batch(4)
            pages = [number for number in store.disk.noted if number]
            self.assertEqual(sorted(pages), sorted(list(range(1, 7)) * (len(house.events) - 1)))

    def test_what_stands_on_stores_writes_as_little(self):
        store = counting_store(LINE, new_store(LINE).disk.blocks)
        leader, service, index = Leader(store), Service(store), Index(store, "a", "n")
        leader.deal(tuple(("put", "a", key, (1,)) for key in (0, 1, 2, 3)))
        self.assertLessEqual(len(store.disk.noted), 3 * 1 + 4)
        store.disk.noted.clear()
        leader.page_note(0)
        leader.stamp(0)
        index.found("a", "n", 1)
        for _ in range(7):
            index.step()
        self.assertEqual(store.disk.noted, [])
        service.hear((0, 0, 1, 0, 1, 0))
        self.assertLessEqual(len(store.disk.noted), 3 * 1 + 4)
        store.disk.noted.clear()
        service.hear((0, 0, 1, 0, 1, 0))
        service.hear((0, 0, 0, 0, 1, 0))
        self.assertEqual(store.disk.noted, [])
        service.hear((0, 0, 2, 0, 2, 0, 1, 1, 2))
        self.assertLessEqual(len(store.disk.noted), 3 * 2 + 4)
        store.go_on()
        store.disk.noted.clear()
        for _ in range(8):
            index.step()
        self.assertEqual(store.disk.noted, [1, 2, 3, 4, 5, 6])


if __name__ == "__main__":
    unittest.main()
