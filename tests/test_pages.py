"""Pages: promise [48]."""

import itertools
import random
import unittest

from kept import tables_of, store_houses
from small import LINE, PAIR, house_of

from telltrove.pages import page_of, paper_bytes, papers_of

NOTHING = house_of("open a { e : rec { } ; } add b from a { e : rec { } ; f : rec { } ; } retire a ;")


def leaves(sizes):
    """A house of one version, with a strand for each of the sizes."""
    fields = " ".join(f"{name} : num 1 .. {size} ;" for name, size in zip("abcdefgh", sizes))
    return house_of(f"open a {{ {fields} }}")


def number_by_counting(many, paper):
    """The place of a paper among none and all tuples of codes, ascending."""
    return [None, *itertools.product(*[range(own) for own in many])].index(paper)


class Bytes(unittest.TestCase):

    def test_by_hand(self):
        for sizes, length in (((1,), 1), ((2,), 1), ((15, 17), 1), ((16, 16), 2), ((51, 5), 1), ((4, 4, 4, 4), 2), ((8, 8, 4), 2),
                              ((50, 50), 2), ((60, 60, 18), 2), ((60, 60, 19), 3), ((60,) * 8, 6)):
            tables = tables_of(leaves(sizes))
            self.assertEqual(tables.many(0), sizes)
            self.assertEqual(paper_bytes(tables, 0), length, sizes)

    def test_least(self):
        for house in store_houses():
            tables = tables_of(house)
            for epoch in range(len(house.events)):
                papers = 1
                for many in tables.many(epoch):
                    papers *= many
                length = paper_bytes(tables, epoch)
                self.assertTrue(256 ** (length - 1) < 1 + papers <= 256 ** length)


class Blocks(unittest.TestCase):

    def test_by_hand(self):
        tables = tables_of(LINE)
        self.assertEqual(page_of(tables, 0, (None, None, None, None)), (0, 0, 0, 0, 0))
        self.assertEqual(page_of(tables, 0, (None, (2,), None, (0,))), (0, 0, 3, 0, 1))
        self.assertEqual(page_of(tables, 2, ((4,), (2,), (1,), (0,))), (2, 5, 3, 2, 1))
        self.assertEqual(papers_of(tables, (3, 0, 3, 1, 2)), (3, (None, (2,), (0,), (1,))))

    def test_several_strands(self):
        tables = tables_of(PAIR)
        self.assertEqual(tables.many(1), (3, 3, 2, 2))
        # 1 + ((2 * 3 + 1) * 2 + 0) * 2 + 1
        self.assertEqual(page_of(tables, 1, ((2, 1, 0, 1), None, (0, 0, 0, 0), (2, 2, 1, 1))), (1, 30, 0, 1, 36))
        self.assertEqual(papers_of(tables, (1, 30, 0, 1, 36)), (1, ((2, 1, 0, 1), None, (0, 0, 0, 0), (2, 2, 1, 1))))
        # The first strand counts most.
        self.assertEqual(page_of(tables, 1, ((1, 0, 0, 0), (0, 1, 0, 0), (0, 0, 1, 0), (0, 0, 0, 1))), (1, 13, 5, 3, 2))

    def test_no_strands(self):
        tables = tables_of(NOTHING)
        for epoch in range(3):
            self.assertEqual(paper_bytes(tables, epoch), 1)
            self.assertEqual(page_of(tables, epoch, ((), None, None, ())), (epoch, 1, 0, 0, 1))
            self.assertEqual(papers_of(tables, (epoch, 0, 1, 1, 0)), (epoch, (None, (), (), None)))

    def test_several_bytes(self):
        tables = tables_of(leaves((16, 17)))
        self.assertEqual(paper_bytes(tables, 0), 2)
        self.assertEqual(page_of(tables, 0, ((15, 16), (0, 0), None, (15, 0))), (0, 1, 16, 0, 1, 0, 0, 1, 0))
        self.assertEqual(papers_of(tables, (0, 1, 16, 0, 1, 0, 0, 1, 0)), (0, ((15, 16), (0, 0), None, (15, 0))))
        tables = tables_of(leaves((16,) * 6))
        self.assertEqual(paper_bytes(tables, 0), 4)
        self.assertEqual(page_of(tables, 0, ((1, 2, 3, 4, 5, 6), None, (15,) * 6, None)), (0, 0, 0x12, 0x34, 0x57, 0, 0, 0, 0, 1, 0, 0, 0, 0, 0, 0, 0))

    def test_a_large_page(self):
        """As many strands as there can be of one version, all with 60 codes."""
        sizes = (60,) * 8
        tables = tables_of(leaves(sizes))
        block = page_of(tables, 0, ((59,) * 8,) * 4)
        self.assertEqual(block[0], 0)
        self.assertEqual(int.from_bytes(bytes(block[1:7]), "big"), 60 ** 8)
        self.assertEqual(papers_of(tables, block), (0, ((59,) * 8,) * 4))

    def test_each_number_by_counting(self):
        rng = random.Random(71)
        for house in store_houses():
            tables = tables_of(house)
            for epoch in range(len(house.events)):
                many = tables.many(epoch)
                length = paper_bytes(tables, epoch)
                papers = [None, *itertools.product(*[range(own) for own in many])]
                if len(papers) > 5000:
                    continue
                for _ in range(4):
                    four = tuple(rng.choice(papers) for _ in range(4))
                    block = page_of(tables, epoch, four)
                    self.assertEqual(len(block), 1 + 4 * length)
                    self.assertEqual(block[0], epoch)
                    for at, paper in enumerate(four):
                        own = block[1 + at * length:1 + (at + 1) * length]
                        self.assertEqual(int.from_bytes(bytes(own), "big"), number_by_counting(many, paper))
                    self.assertEqual(papers_of(tables, block), (epoch, four))
                    self.assertTrue(all(0 <= byte < 256 for byte in block))
                    self.assertLessEqual(len(block), 250)

    def test_lists_of_what_is_told_are_tuples(self):
        tables = tables_of(PAIR)
        epoch, papers = papers_of(tables, (1, 30, 0, 1, 36))
        self.assertIsInstance(papers, tuple)
        self.assertTrue(all(paper is None or isinstance(paper, tuple) for paper in papers))
        self.assertIsInstance(page_of(tables, 1, papers), tuple)


if __name__ == "__main__":
    unittest.main()
