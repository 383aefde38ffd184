"""Leaders: promise [60]."""

import unittest

from kept import NOTHING, PAIR, RULED, WORDS, answer_of, codes_in_hall, new_store, opened, some_deal, some_rng, store_houses, tables_of
from small import LINE, house_of

from telltrove.errors import BadKey, Cut, Retired
from telltrove.hall import Hall
from telltrove.leaders import Leader
from telltrove.pages import page_of, paper_bytes


def digits_by_page(house, epoch, codes):
    """The bytes of a paper, cut out of a page."""
    length = paper_bytes(tables_of(house), epoch)
    return page_of(tables_of(house), epoch, (codes, None, None, None))[1:1 + length]


class ByHand(unittest.TestCase):

    def test_the_documents_deal(self):
        leader = Leader(new_store(LINE))
        self.assertEqual(leader.deal((("put", "a", 5, (2,)), ("drop", "a", 5))), ((0, 5, 0, 1, 0, 0),))

    def test_key_notes(self):
        leader = Leader(new_store(LINE))
        self.assertEqual(leader.deal((("put", "a", 5, (2,)),)), ((0, 5, 0, 1, 0, 1, 3),))
        # Several keys of one page, one of them twice, ascending.
        self.assertEqual(leader.deal((("put", "a", 7, (0,)), ("put", "a", 4, (1,)), ("put", "a", 20, (1,)), ("put", "a", 7, (2,)))),
                         ((0, 4, 0, 2, 0, 1, 2), (0, 7, 0, 3, 0, 1, 3), (0, 20, 0, 1, 0, 1, 2)))
        self.assertEqual([leader.stamp(page) for page in range(6)], [0, 3, 0, 0, 0, 1])
        # A drop where there is no paper is told, too.
        self.assertEqual(leader.deal((("drop", "a", 6), ("drop", "a", 0))), ((0, 0, 0, 1, 0, 0), (0, 6, 0, 4, 0, 0)))
        self.assertEqual(leader.deal(()), ())
        leader.store.go_on()
        self.assertEqual(leader.deal((("drop", "b", 5), ("put", "b", 6, (1,)))), ((0, 5, 0, 5, 1, 0), (0, 6, 0, 6, 1, 1, 2)))

    def test_a_put_that_changes_nothing_is_told(self):
        leader = Leader(new_store(LINE))
        leader.deal((("put", "a", 5, (2,)),))
        self.assertEqual(leader.deal((("put", "a", 5, (2,)),)), ((0, 5, 0, 2, 0, 1, 3),))

    def test_refused_deals(self):
        leader = Leader(new_store(LINE))
        leader.deal((("put", "a", 5, (2,)),))
        for _ in range(2):
            with self.assertRaises(BadKey):
                leader.deal((("drop", "a", 5), ("drop", "a", 24)))
            self.assertEqual([leader.stamp(page) for page in range(6)], [0, 1, 0, 0, 0, 0])
            self.assertEqual(leader.store.present_keys(), (5,))
        for _ in range(3):
            leader.store.go_on()
        with self.assertRaises(Retired):
            leader.deal((("put", "a", 1, (1,)), ("drop", "c", 5)))
        self.assertEqual([leader.stamp(page) for page in range(6)], [0, 1, 0, 0, 0, 0])
        quiet = Leader(opened(LINE, leader.store.disk.blocks, 0))
        with self.assertRaises(Cut):
            quiet.deal((("put", "a", 1, (1,)),))

    def test_page_notes(self):
        leader = Leader(new_store(LINE))
        self.assertEqual(leader.page_note(1), (1, 1, 0, 0, 0, 0, 0, 0, 0))
        leader.deal((("put", "a", 5, (2,)), ("put", "a", 6, (0,))))
        for _ in range(2):
            self.assertEqual(leader.page_note(1), (1, 1, 0, 2, 0, 0, 3, 1, 0))
            self.assertEqual(leader.stamp(1), 2)
        leader.store.go_on()
        # The block is still one of the elder epoch.
        self.assertEqual(leader.page_note(1), (1, 1, 0, 2, 0, 0, 3, 1, 0))
        leader.store.batch(6)
        self.assertEqual(leader.page_note(1), (1, 1, 0, 2, 1, 0, 3, 1, 0))
        self.assertEqual(leader.page_note(5), (1, 5, 0, 0, 1, 0, 0, 0, 0))

    def test_numbers_of_several_bytes(self):
        house = house_of("open a { n : num 0 .. 15 ; m : num 0 .. 16 ; }")
        leader = Leader(new_store(house))
        self.assertEqual(leader.deal((("put", "a", 23, (15, 16)), ("put", "a", 22, (0, 0)))), ((0, 22, 0, 1, 0, 1, 0, 1), (0, 23, 0, 2, 0, 1, 1, 16)))
        self.assertEqual(leader.page_note(5), (1, 5, 0, 2, 0, 0, 0, 0, 0, 0, 1, 1, 16))

    def test_no_strands(self):
        leader = Leader(new_store(NOTHING))
        self.assertEqual(leader.deal((("put", "a", 0, ((),)), ("drop", "a", 1))), ((0, 0, 0, 1, 0, 1, 1), (0, 1, 0, 2, 0, 0)))

    def test_high_stamps(self):
        leader = Leader(new_store(LINE))
        for stamp in range(1, 520):
            note, = leader.deal((("drop", "a", 8),))
            self.assertEqual(note, (0, 8, stamp // 256, stamp % 256, 0, 0))
        self.assertEqual(leader.page_note(2)[:4], (1, 2, 2, 7))
        self.assertEqual(leader.stamp(2), 519)

    def test_a_store_with_papers(self):
        """Stamps begin with 0, whatever the store has."""
        store = new_store(LINE)
        store.put("a", 5, (1,))
        leader = Leader(store)
        self.assertEqual([leader.stamp(page) for page in range(6)], [0] * 6)
        self.assertEqual(leader.page_note(1), (1, 1, 0, 0, 0, 0, 2, 0, 0))
        self.assertEqual(leader.deal((("put", "a", 4, (0,)),)), ((0, 4, 0, 1, 0, 1, 1),))

    def test_leaders_by_turns(self):
        one, two = Leader(new_store(LINE)), Leader(new_store(PAIR))
        one.deal((("put", "a", 5, (2,)),))
        self.assertEqual([leader.stamp(1) for leader in (one, two)], [1, 0])
        self.assertEqual(two.deal((("drop", "a", 5),)), ((0, 5, 0, 1, 0, 0),))
        self.assertEqual(one.deal((("drop", "a", 5),)), ((0, 5, 0, 2, 0, 0),))


class Compared(unittest.TestCase):

    def test_byte_by_byte(self):
        for seed in range(2):
            for house in store_houses() + [RULED, WORDS]:
                rng = some_rng("leaders", seed)
                hall, store = Hall(house), new_store(house)
                leader = Leader(store)
                stamps = [0] * 6
                for _ in range(15):
                    if rng.random() < 0.2 and hall.epoch + 1 < len(house.events):
                        hall.go_on()
                        store.go_on()
                    elif rng.random() < 0.2:
                        store.batch(rng.randrange(3))
                    deeds = some_deal(rng, house, hall.epoch)
                    if rng.random() < 0.2:
                        wrong = deeds + (("drop", house.names[0], 99),)
                        before = store.disk.blocks
                        self.assertEqual(answer_of(leader.deal, wrong), answer_of(hall.deal, wrong))
                        self.assertEqual(store.disk.blocks, before)
                    hall.deal(deeds)
                    own = []
                    for key in sorted({deed[2] for deed in deeds}):
                        stamps[key // 4] += 1
                        codes = codes_in_hall(hall, key)
                        told = (0,) if codes is None else (1,) + digits_by_page(house, hall.epoch, codes)
                        own.append((0, key, stamps[key // 4] // 256, stamps[key // 4] % 256, hall.epoch) + told)
                    self.assertEqual(leader.deal(deeds), tuple(own))
                    self.assertEqual([leader.stamp(page) for page in range(6)], stamps)
                    for page in range(6):
                        self.assertEqual(leader.page_note(page), (1, page, 0, stamps[page]) + store.disk.blocks[1 + page])
                self.assertEqual(store.present_keys(), hall.present_keys())


if __name__ == "__main__":
    unittest.main()
