"""Books: promise [32]."""

import itertools
import random
import unittest

from small import HIDING, LINE, Search, house_of, some_houses, table_houses, unions_of

from telltrove.books import book_of, code_behind
from telltrove.classes import classes_of
from telltrove.errors import TooLarge

WHOLE = (("n",), ("m",), ("k",))
LINE_BOOK = ("book", ((0, (0,)), (0, (1,)), (0, (2,)), (1, (0,)), (1, (1,))), (0, 1, 2, 0, 1),
             (((0,), (0,)), ((1,), (1,)), ((2,), (1,))), ((0, 1, 2, 0, 1), (0, 1, 2, 0, 1), (0, 1, 2, 0, 2)))


def large(test, told, *arguments):
    with test.assertRaises(TooLarge) as caught:
        book_of(*arguments)
    test.assertEqual(caught.exception.part, told)


class ByHand(unittest.TestCase):

    def test_the_line(self):
        self.assertEqual(book_of(LINE, 3, WHOLE), LINE_BOOK)
        self.assertEqual(book_of(LINE, 0, WHOLE[:1]), ("book", ((0, (0,)), (0, (1,)), (0, (2,))), (0, 1, 2), (((0,),), ((1,),), ((2,),)),
                                                       ((0, 1, 2),) * 3))
        self.assertEqual(book_of(LINE, 1, WHOLE[:2]), LINE_BOOK)

    def test_no_node(self):
        self.assertEqual(book_of(LINE, 2, ((), (), ())), ("book", ((0, ()), (1, ()), (2, ())), (0, 0, 0), (((), (), ()),), ((0, 0, 0),)))
        self.assertEqual(book_of(LINE, 3, ((), (), ())), ("book", ((0, ()), (1, ())), (0, 0), (((), ()),), ((0, 0),)))

    def test_nothing_is_reached(self):
        house = house_of("open a { n : num 0 .. 1 ; rule n = 0 ; rule n = 1 ; }")
        self.assertEqual(book_of(house, 0, (("n",),)), ("book", (), (), (), ()))

    def test_a_view_can_stand_twice(self):
        self.assertEqual(book_of(HIDING, 3, WHOLE), (
            "book", ((0, (0,)), (0, (1,)), (2, (0,)), (2, (1,))), (1, 3, 0, 3),
            (((0,), (0,)), ((0,), (0,)), ((1,), (0,)), ((1,), (1,))),
            ((0, 3, 0, 3), (1, 2, 1, 3), (1, 2, 2, 3), (1, 3, 0, 3))))

    def test_forbidden_views(self):
        house = house_of("open a { n : num 0 .. 2 ; } add b from a { m : num 0 .. 2 ; rule not m = 1 ; step n to m by same ; }")
        self.assertEqual(book_of(house, 1, (("n",), ("m",))),
                         ("book", ((0, (0,)), (0, (1,)), (0, (2,)), (1, (0,)), (1, (2,))), (0, 1, 2, 0, 2),
                          (((0,), (0,)), ((1,), (1,)), ((2,), (2,))), ((0, 1, 2, 0, 2),) * 3))


class Compared(unittest.TestCase):

    def test_with_what_is_done_to_states(self):
        seen = {True: 0, False: 0}
        for house in some_houses(45, first=1200) + table_houses(60, adds=4, retires=3):
            for epoch in range(len(house.events)):
                for bundle in unions_of(house, epoch, 5):
                    try:
                        codes = dict(classes_of(house, epoch, bundle))
                    except TooLarge as error:
                        large(self, error.part, house, epoch, bundle)
                        continue
                    book = book_of(house, epoch, bundle)
                    self.check(Search(house, epoch, bundle), codes, book)
                    seen[len(set(book[3])) < len(book[3])] += 1
        self.assertGreater(min(seen.values()), 15)

    def check(self, search, codes, book):
        word, deeds, starts, views, moves = book
        self.assertEqual(word, "book")
        self.assertEqual(deeds, tuple(deed[1:] for deed in search.deeds(search.epoch)))
        self.assertEqual(deeds, tuple(sorted(deeds)))
        self.assertEqual(starts, tuple(codes[search.spread(search.epoch, None, *deed)] for deed in deeds))
        self.assertEqual(len(views), len(set(codes.values())))
        self.assertEqual(len(moves), len(views))
        for parts, code in codes.items():
            self.assertEqual(views[code], search.view(parts))
            self.assertEqual(moves[code], tuple(codes[search.spread(search.epoch, parts, *deed)] for deed in deeds))

    def test_rows_of_deeds(self):
        rng = random.Random(2)
        for house in some_houses(40, first=1300) + table_houses(20, first=100, adds=4, retires=3):
            epoch = len(house.events) - 1
            for bundle in unions_of(house, epoch, 4):
                try:
                    codes = classes_of(house, epoch, bundle)
                except TooLarge:
                    continue
                book = book_of(house, epoch, bundle)
                search = Search(house, epoch, bundle)
                for parts, code in codes:
                    row = tuple(rng.choice(book[1]) for _ in range(rng.randint(0, 5))) if book[1] else ()
                    for deed in row:
                        parts = search.spread(epoch, parts, *deed)
                    self.assertEqual(code_behind(book, code, row), dict(codes)[parts])
                    self.assertEqual(book[3][code_behind(book, code, row)], search.view(parts))


class CodeBehind(unittest.TestCase):

    def test_by_hand(self):
        for code in range(3):
            self.assertEqual(code_behind(LINE_BOOK, code, ()), code)
        self.assertEqual(code_behind(LINE_BOOK, 2, ((1, (1,)),)), 2)
        self.assertEqual(code_behind(LINE_BOOK, 1, ((1, (1,)),)), 1)
        self.assertEqual(code_behind(LINE_BOOK, 0, ((1, (1,)),)), 1)
        self.assertEqual(code_behind(LINE_BOOK, 2, ((1, (0,)), (1, (1,)))), 1)
        self.assertEqual(code_behind(LINE_BOOK, 0, ((0, (2,)), (1, (1,)), (1, (1,)))), 2)

    def test_a_book_of_no_house(self):
        """Seven codes in a ring; the deed of version 4 goes on by 1, that of version 9 by 3."""
        moves = tuple(((at + 1) % 7, (at + 3) % 7) for at in range(7))
        book = ("book", ((4, ("x", ())), (9, ())), (5, 6), tuple(((at,),) for at in range(7)), moves)
        for many in range(6):
            for row in itertools.product(book[1], repeat=many):
                for code in range(7):
                    told = (code + sum(1 if deed[0] == 4 else 3 for deed in row)) % 7
                    self.assertEqual(code_behind(book, code, row), told)
        self.assertEqual(code_behind(book, 2, book[1] * 500), (2 + 4 * 500) % 7)


class Large(unittest.TestCase):

    def test_60_and_61_states(self):
        for top, fits in ((59, True), (60, False)):
            house = house_of("open a { n : num 0 .. %d ; } add b from a { e : rec { } ; step n to none by apart 0 [ ] ; } retire a ;" % top)
            if fits:
                book = book_of(house, 0, (("n",),))
                self.assertEqual(book[2:], (tuple(range(60)), tuple(((n,),) for n in range(60)), (tuple(range(60)),) * 60))
                self.assertEqual(book_of(house, 2, (("n",), ())), ("book", ((1, ()),), (0,), (((),),), ((0,),)))
            else:
                for epoch in range(3):
                    large(self, "bundle", house, epoch, (("n",), ())[:epoch + 1])

    def test_400_and_401_parts(self):
        fits = house_of("open a { p : num 1 .. 20 ; q : num 1 .. 20 ; r : num 1 .. 21 ; rule p = 1 ; rule q = 2 ; rule r = 3 ; }")
        self.assertEqual(book_of(fits, 0, (("p", "q"),)), ("book", ((0, (1, 2)),), (0,), (((1, 2),),), ((0,),)))
        large(self, "part", fits, 0, (("p", "r"),))
        retired = house_of("open a { n : num 0 .. 60 ; } add b from a { m : num 0 .. 400 ; step n to m by clip ; } retire b ;")
        large(self, "bundle", retired, 0, (("n",),))
        large(self, "part", retired, 1, (("n",), ("m",)))
        large(self, "part", retired, 2, (("n",), ("m",)))


if __name__ == "__main__":
    unittest.main()
