"""Parting rows: promises [33] and [67]."""

import itertools
import random
import unittest

from small import HIDING, LINE, Search, some_houses, table_houses, unions_of

from telltrove.books import book_of, code_behind
from telltrove.classes import classes_of
from telltrove.errors import TooLarge
from telltrove.partings import parting

WHOLE = (("n",), ("m",), ("k",))


def parting_by_rows(book, c, d):
    """The parting row, found by trying deed behind deed."""
    level = [((c, d), ())]
    seen = {(c, d)}
    while level:
        after = []
        for (here, there), row in level:
            if book[3][here] != book[3][there]:
                return row
            for place, deed in enumerate(book[1]):
                pair = (book[4][here][place], book[4][there][place])
                if pair not in seen:
                    seen.add(pair)
                    after.append((pair, row + (deed,)))
        level = after
    return None


def all_parted(book):
    return all(parting_by_rows(book, c, d) is not None for c, d in itertools.combinations(range(len(book[3])), 2))


def chain(many):
    """Only the last code has another view; one deed goes on by 1, the other one stays."""
    moves = tuple((at, min(at + 1, many - 1)) for at in range(many))
    return "book", ((0, ()), (3, ("x",))), (0, 0), ((),) * (many - 1) + ((1,),), moves


def some_book(rng, codes, deeds, views):
    """A book of no house, any two codes of which are parted, or None."""
    told = tuple(sorted({(rng.randrange(4), (rng.randrange(3),)) for _ in range(deeds)}))
    moves = tuple(tuple(rng.randrange(codes) for _ in told) for _ in range(codes))
    shown = tuple(((rng.randrange(views),),) for _ in range(codes))
    book = ("book", told, tuple(rng.randrange(codes) for _ in told), shown, moves)
    return book if all_parted(book) else None


class ByHand(unittest.TestCase):

    def test_the_line(self):
        book = book_of(LINE, 3, WHOLE)
        for c in range(3):
            self.assertIsNone(parting(book, c, c))
            for d in range(3):
                if c != d:
                    self.assertEqual(parting(book, c, d), ())

    def test_a_view_that_stands_twice(self):
        book = book_of(HIDING, 3, WHOLE)
        self.assertEqual(parting(book, 0, 1), ((0, (1,)),))
        self.assertEqual(parting(book, 1, 0), ((0, (1,)),))
        self.assertEqual(parting(book, 1, 2), ())
        for c in range(4):
            self.assertIsNone(parting(book, c, c))

    def test_one_code(self):
        self.assertIsNone(parting(book_of(LINE, 3, ((), (), ())), 0, 0))

    def test_the_least_of_several(self):
        views = (("x",), ("x",), ("y",), ("z",))
        deeds = ((0, (0,)), (0, (1,)), (2, ()))
        # All three deeds part 0 and 1; then two of them; then only the last one, and a pair of the others.
        self.assertEqual(parting(("book", deeds, (0, 0, 0), views, ((2, 2, 2), (3, 3, 3), (2, 2, 2), (3, 3, 3))), 0, 1), ((0, (0,)),))
        self.assertEqual(parting(("book", deeds, (0, 0, 0), views, ((0, 2, 2), (0, 3, 3), (2, 2, 2), (3, 3, 3))), 1, 0), ((0, (1,)),))
        self.assertEqual(parting(("book", deeds, (0, 0, 0), views, ((1, 2, 3), (0, 2, 2), (2, 2, 2), (3, 3, 3))), 0, 1), ((2, ()),))

    def test_fewer_deeds_come_before_lesser_ones(self):
        views = ((), (), (), (), ("y",))
        deeds = ((0, (0,)), (1, (1,)))
        book = ("book", deeds, (0, 0), views, ((2, 4), (3, 0), (2, 4), (4, 3), (4, 4)))
        self.assertEqual(parting(book, 0, 1), ((1, (1,)),))
        self.assertEqual(parting(book, 2, 3), ((0, (0,)),))


class Compared(unittest.TestCase):

    def test_books_of_small_houses(self):
        """Against rows of deeds over states."""
        seen = {}
        for house in some_houses(30, first=1500) + table_houses(80, adds=4, retires=3) + table_houses(20, adds=5, retires=3):
            epoch = len(house.events) - 1
            for bundle in unions_of(house, epoch, 4):
                try:
                    codes = classes_of(house, epoch, bundle)
                except TooLarge:
                    continue
                book = book_of(house, epoch, bundle)
                search = Search(house, epoch, bundle)
                firsts = [[parts for parts, code in codes if code == own][0] for own in range(min(16, len(book[3])))]
                for c, one in enumerate(firsts):
                    for d, two in enumerate(firsts):
                        row = search.parting(one, two)
                        self.assertEqual(parting(book, c, d), row)
                        length = -1 if row is None else len(row)
                        seen[length] = seen.get(length, 0) + 1
        self.assertGreater(min(seen[-1], seen[0], seen[1]), 40)
        self.assertGreater(seen[2], 10)

    def test_books_of_no_house(self):
        rng = random.Random(3)
        lengths = set()
        books = 0
        while books < 120:
            book = some_book(rng, rng.randint(2, 9), rng.randint(1, 4), rng.randint(2, 3))
            if book is None:
                continue
            books += 1
            for c in range(len(book[3])):
                for d in range(len(book[3])):
                    row = parting(book, c, d)
                    self.assertEqual(row, parting_by_rows(book, c, d) if c != d else None)
                    self.assertEqual(row, parting(book, d, c))
                    if row is not None:
                        lengths.add(len(row))
                        self.assertNotEqual(book[3][code_behind(book, c, row)], book[3][code_behind(book, d, row)])
        self.assertGreaterEqual(lengths, {0, 1, 2, 3})

    def test_all_rows_one_by_one(self):
        rng = random.Random(4)
        books = 0
        while books < 40:
            book = some_book(rng, 5, 3, 2)
            if book is None:
                continue
            books += 1
            for c, d in itertools.combinations(range(5), 2):
                rows = (row for many in range(6) for row in itertools.product(book[1], repeat=many))
                first = next((row for row in rows if book[3][code_behind(book, c, row)] != book[3][code_behind(book, d, row)]), None)
                self.assertEqual(parting(book, c, d), first)


class LongRows(unittest.TestCase):

    def test_a_chain(self):
        for many in (2, 3, 10, 60, 75):
            book = chain(many)
            for c, d in ((0, 1), (many - 2, many - 1), (0, many - 1), (many // 2, many // 3)):
                if c != d:
                    row = (book[1][1],) * (many - 1 - max(c, d))
                    self.assertEqual(parting(book, c, d), row)
                    self.assertEqual(parting(book, d, c), row)

    def test_two_rings(self):
        """Codes that go round in rings of 7 and 8, with one code of each ring that shows something else."""
        seven = tuple(((at + 1) % 7,) for at in range(7))
        eight = tuple((7 + (at + 1) % 8,) for at in range(8))
        views = tuple((("y",),) if at in (6, 14) else (("x",),) for at in range(15))
        book = ("book", ((0, (0,)),), (0,), views, seven + eight)
        self.assertIs(all_parted(book), True)
        longest = 0
        for c in range(15):
            for d in range(15):
                row = parting(book, c, d)
                self.assertEqual(row, parting_by_rows(book, c, d) if c != d else None)
                longest = max(longest, len(row or ()))
        self.assertEqual(longest, 13)

    def test_no_more_deeds_than_pairs_of_codes(self):
        rng = random.Random(6)
        books = 0
        while books < 40:
            codes = rng.randint(3, 12)
            book = some_book(rng, codes, 2, 2)
            if book is None:
                continue
            books += 1
            for c, d in itertools.combinations(range(codes), 2):
                self.assertLessEqual(len(parting(book, c, d)), codes * (codes - 1) // 2)

    def test_views_that_are_nested_deeply(self):
        deep, other = 0, 1
        for _ in range(40):
            deep, other = (deep,), (other,)
        book = ("book", ((0, deep[0]),), (0,), ((deep,), (deep,), (other,)), ((1,), (2,), (2,)))
        self.assertEqual(parting(book, 0, 1), ((0, deep[0]),))
        self.assertEqual(parting(book, 0, 2), ())
        self.assertEqual(code_behind(book, 0, ((0, deep[0]),) * 2), 2)


if __name__ == "__main__":
    unittest.main()
