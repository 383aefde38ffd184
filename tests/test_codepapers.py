"""Code papers: promise [34]."""

import itertools
import random
import unittest

from small import HIDING, LINE, Search, house_of, some_houses, table_houses, unions_of

from telltrove.books import book_of
from telltrove.classes import classes_of
from telltrove.codepapers import code_paper, judge_codes
from telltrove.errors import TooLarge
from telltrove.partings import parting

WHOLE = (("n",), ("m",), ("k",))
DEEP = ()
for _ in range(25):
    DEEP = (DEEP,)
CASES = ((LINE, 3, WHOLE), (LINE, 2, WHOLE), (HIDING, 3, WHOLE), (HIDING, 1, WHOLE[:2]), (LINE, 3, ((), (), ())), (LINE, 0, WHOLE[:1]))


def judge_by_search(search, paper):
    """What the judge has to say of a paper in its told shape, told in its plainest way."""
    if paper[0] != "codes" or paper[2][0] != "book":
        return False
    _, assigned, (_, deeds, starts, views, moves), partings = paper
    codes = dict(assigned)
    if [parts for parts, _ in assigned] != sorted(search.least_rows()) or set(codes.values()) != set(range(len(views))):
        return False
    if deeds != tuple(deed[1:] for deed in search.deeds(search.epoch)):
        return False
    if len(starts) != len(deeds) or len(moves) != len(views) or any(len(row) != len(deeds) for row in moves):
        return False
    for place, deed in enumerate(deeds):
        if starts[place] != codes[search.spread(search.epoch, None, *deed)]:
            return False
        if any(moves[code][place] != codes[search.spread(search.epoch, parts, *deed)] for parts, code in assigned):
            return False
    if any(views[code] != search.view(parts) for parts, code in assigned):
        return False
    if [pair[:2] for pair in partings] != list(itertools.combinations(range(len(views)), 2)):
        return False
    for c, d, row in partings:
        for deed in row:
            if deed not in deeds:
                return False
            c, d = moves[c][deeds.index(deed)], moves[d][deeds.index(deed)]
        if views[c] == views[d]:
            return False
    return True


def renumbered(paper, news):
    """The paper in which each code has the number that news has at its place."""
    _, assigned, (_, deeds, starts, views, moves), partings = paper
    olds = [news.index(code) for code in range(len(news))]
    book = ("book", deeds, tuple(news[code] for code in starts), tuple(views[old] for old in olds),
            tuple(tuple(news[code] for code in moves[old]) for old in olds))
    pairs = sorted((min(news[c], news[d]), max(news[c], news[d]), row) for c, d, row in partings)
    return "codes", tuple((parts, news[code]) for parts, code in assigned), book, tuple(pairs)


def with_part(paper, place, thing):
    return paper[:place] + (thing,) + paper[place + 1:]


def with_book(paper, place, thing):
    return with_part(paper, 2, with_part(paper[2], place, thing))


class CodePaper(unittest.TestCase):

    def test_by_hand(self):
        self.assertEqual(code_paper(LINE, 3, WHOLE), (
            "codes", ((((0,), (0,), (0,)), 0), (((1,), (1,), (1,)), 1), (((1,), (1,), (2,)), 1), (((2,), (1,), (1,)), 2),
                      (((2,), (1,), (2,)), 2)),
            ("book", ((0, (0,)), (0, (1,)), (0, (2,)), (1, (0,)), (1, (1,))), (0, 1, 2, 0, 1),
             (((0,), (0,)), ((1,), (1,)), ((2,), (1,))), ((0, 1, 2, 0, 1), (0, 1, 2, 0, 1), (0, 1, 2, 0, 2))),
            ((0, 1, ()), (0, 2, ()), (1, 2, ()))))
        self.assertEqual(code_paper(LINE, 3, ((), (), ())), ("codes", ((((), (), ()), 0),), ("book", ((0, ()), (1, ())), (0, 0), (((), ()),),
                                                                                       ((0, 0),)), ()))
        self.assertEqual(code_paper(HIDING, 3, WHOLE)[3], ((0, 1, ((0, (1,)),)), (0, 2, ()), (0, 3, ()), (1, 2, ()), (1, 3, ()), (2, 3, ())))

    def test_nothing_is_reached(self):
        house = house_of("open a { n : num 0 .. 1 ; rule n = 0 ; rule n = 1 ; }")
        paper = ("codes", (), ("book", (), (), (), ()), ())
        self.assertEqual(code_paper(house, 0, (("n",),)), paper)
        self.assertIs(judge_codes(house, 0, (("n",),), paper), True)
        self.assertIs(judge_codes(house, 0, (("n",),), with_part(paper, 1, ((((0,),), 0),))), False)
        self.assertIs(judge_codes(house, 0, (("n",),), with_book(paper, 3, (((0,),),))), False)
        self.assertIs(judge_codes(house, 0, (("n",),), with_book(paper, 4, ((),))), False)

    def test_it_has_the_classes_the_book_and_the_parting_rows(self):
        for house in some_houses(30, first=1700) + table_houses(30, adds=4, retires=3):
            epoch = len(house.events) - 1
            for bundle in unions_of(house, epoch, 4):
                try:
                    paper = code_paper(house, epoch, bundle)
                except TooLarge:
                    continue
                book = book_of(house, epoch, bundle)
                pairs = itertools.combinations(range(len(book[3])), 2)
                self.assertEqual(paper, ("codes", classes_of(house, epoch, bundle), book,
                                         tuple((c, d, parting(book, c, d)) for c, d in pairs)))
                self.assertIs(judge_codes(house, epoch, bundle, paper), True)


class Judge(unittest.TestCase):

    def none(self, case, *papers):
        for paper in papers:
            self.assertIs(judge_codes(*case, paper), False, paper)

    def test_the_paper_is_taken(self):
        for case in CASES:
            self.assertIs(judge_codes(*case, code_paper(*case)), True)

    def test_other_numbers(self):
        for case in CASES:
            paper = code_paper(*case)
            for news in itertools.islice(itertools.permutations(range(len(paper[2][3]))), 130):
                self.assertIs(judge_codes(*case, renumbered(paper, news)), True)

    def test_other_words(self):
        for case in CASES[:2]:
            paper = code_paper(*case)
            self.none(case, ("code",) + paper[1:], ("",) + paper[1:], ("book",) + paper[1:], ("papers",), ("", 1), (),
                      ("x",) + paper, with_part(paper, 2, ("codes",) + paper[2][1:]), with_part(paper, 2, ("books", 3)),
                      with_part(paper, 2, ("",)), with_part(paper, 2, ()))

    def test_assigned(self):
        for case in CASES:
            paper = code_paper(*case)
            assigned = paper[1]
            for at, (parts, code) in enumerate(assigned):
                self.none(case, *[with_part(paper, 1, bad) for bad in (
                    assigned[:at] + assigned[at + 1:], assigned[:at] + assigned[at:at + 1] + assigned[at:],
                    assigned + assigned[at:at + 1], assigned[:at] + ((parts, -1),) + assigned[at + 1:],
                    assigned[:at] + ((parts, len(paper[2][3])),) + assigned[at + 1:],
                    assigned[:at] + ((parts, 1000000),) + assigned[at + 1:], assigned[:at] + ((parts, -1000000),) + assigned[at + 1:],
                    assigned[:at] + ((parts, code - len(paper[2][3])),) + assigned[at + 1:],
                    assigned[:at] + ((parts + ((),), code),) + assigned[at + 1:], assigned[:at] + ((parts[1:], code),) + assigned[at + 1:],
                    assigned[:at] + ((parts[:-1] + (("x",),), code),) + assigned[at + 1:],
                    assigned[:at] + ((parts[:-1] + ((DEEP,),), code),) + assigned[at + 1:])])
                if at:
                    self.none(case, with_part(paper, 1, assigned[:at - 1] + (assigned[at], assigned[at - 1]) + assigned[at + 1:]))
                for other in range(len(paper[2][3])):
                    told = with_part(paper, 1, assigned[:at] + ((parts, other),) + assigned[at + 1:])
                    self.assertIs(judge_codes(*case, told), other == code)
            self.none(case, with_part(paper, 1, ()), with_part(paper, 1, assigned + ((((9,),) * len(case[2]), 0),)),
                      with_part(paper, 1, ((((-9,),) * len(case[2]), 0),) + assigned))
            if len(assigned) > 1:
                self.none(case, with_part(paper, 1, assigned[::-1]))

    def test_a_state_that_is_not_reached(self):
        paper = code_paper(LINE, 3, WHOLE)
        more = tuple(sorted(paper[1] + ((((0,), (0,), (1,)), 0),)))
        self.none((LINE, 3, WHOLE), with_part(paper, 1, more))

    def test_a_code_that_is_no_states(self):
        for case in CASES:
            paper = code_paper(*case)
            many = len(paper[2][3])
            book = with_part(with_part(paper[2], 3, paper[2][3] + ((("z",),) * len(paper[2][3][0]),)), 4, paper[2][4] + paper[2][4][:1])
            pairs = tuple(sorted(paper[3] + tuple((c, many, ()) for c in range(many))))
            self.none(case, with_part(with_part(paper, 2, book), 3, pairs), with_part(paper, 2, book))

    def test_two_codes_for_one_class(self):
        """The views, starts and moves are right, but no row parts the two."""
        paper = code_paper(LINE, 3, WHOLE)
        assigned = tuple((parts, 3 if parts == ((2,), (1,), (2,)) else code) for parts, code in paper[1])
        book = with_part(with_part(paper[2], 3, paper[2][3] + paper[2][3][2:]), 4, paper[2][4] + ((0, 1, 3, 0, 3),))
        book = with_part(book, 4, paper[2][4][:2] + ((0, 1, 2, 0, 2), (0, 1, 2, 0, 3)))
        for row in ((), ((0, (0,)),), ((1, (1,)),), ((0, (2,)), (1, (1,)))):
            pairs = ((0, 1, ()), (0, 2, ()), (0, 3, ()), (1, 2, ()), (1, 3, ()), (2, 3, row))
            self.none((LINE, 3, WHOLE), ("codes", assigned, book, pairs))
        self.none((LINE, 3, WHOLE), ("codes", assigned, book, paper[3] + ((0, 3, ()), (1, 3, ()))))

    def test_one_code_for_two_classes(self):
        paper = code_paper(HIDING, 3, WHOLE)
        # The codes 0 and 1 have equal views; what they become behind a put of 1 differs.
        assigned = tuple((parts, max(0, code - 1)) for parts, code in paper[1])
        for moved in (1, 2):
            moves = ((0, moved, 0, 2), (0, 1, 1, 2), (0, 2, 0, 2))
            book = ("book", paper[2][1], (0, 2, 0, 2), paper[2][3][1:], moves)
            self.none((HIDING, 3, WHOLE), ("codes", assigned, book, ((0, 1, ()), (0, 2, ()), (1, 2, ()))))

    def test_deeds(self):
        for case in CASES:
            paper = code_paper(*case)
            deeds = paper[2][1]
            self.none(case, with_book(paper, 1, ()), with_book(paper, 1, deeds[:-1]), with_book(paper, 1, deeds[1:]),
                      with_book(paper, 1, deeds + deeds[-1:]), with_book(paper, 1, deeds[::-1]), with_book(paper, 1, deeds + ((9, (0,)),)),
                      with_book(paper, 1, deeds[:-1] + ((deeds[-1][0], ("x",)),)), with_book(paper, 1, deeds[:-1] + ((-1, deeds[-1][1]),)))
            # Fewer deeds with starts and moves to match.
            fewer = with_book(with_book(with_book(paper, 1, deeds[1:]), 2, paper[2][2][1:]), 4, tuple(row[1:] for row in paper[2][4]))
            twice = with_book(with_book(with_book(paper, 1, deeds[:1] + deeds), 2, paper[2][2][:1] + paper[2][2]), 4,
                              tuple(row[:1] + row for row in paper[2][4]))
            back = with_book(with_book(with_book(paper, 1, deeds[::-1]), 2, paper[2][2][::-1]), 4, tuple(row[::-1] for row in paper[2][4]))
            self.none(case, fewer, twice, back)
        # The deeds of retired versions are none.
        paper = code_paper(LINE, 2, WHOLE)
        self.none((LINE, 3, WHOLE), paper)

    def test_starts(self):
        for case in CASES:
            paper = code_paper(*case)
            starts = paper[2][2]
            self.none(case, with_book(paper, 2, ()), with_book(paper, 2, starts[:-1]), with_book(paper, 2, starts + starts[-1:]))
            for at, code in enumerate(starts):
                for bad in range(-2, len(paper[2][3]) + 1):
                    told = with_book(paper, 2, starts[:at] + (bad,) + starts[at + 1:])
                    self.assertIs(judge_codes(*case, told), bad == code)
                self.none(case, with_book(paper, 2, starts[:at] + (code - len(paper[2][3]),) + starts[at + 1:]))

    def test_views(self):
        for case in CASES:
            paper = code_paper(*case)
            views = paper[2][3]
            self.none(case, with_book(paper, 3, ()), with_book(paper, 3, views[:-1]), with_book(paper, 3, views + views[-1:]))
            for at, view in enumerate(views):
                for bad in ((), view[:-1], view + ((),), view[::-1] + (0,), tuple(("x",) for _ in view), view[:-1] + (view[-1] + (0,),)):
                    self.none(case, with_book(paper, 3, views[:at] + (bad,) + views[at + 1:]))
                for other in views:
                    told = with_book(paper, 3, views[:at] + (other,) + views[at + 1:])
                    self.assertIs(judge_codes(*case, told), other == view)

    def test_moves(self):
        for case in CASES:
            paper = code_paper(*case)
            moves = paper[2][4]
            self.none(case, with_book(paper, 4, ()), with_book(paper, 4, moves[:-1]), with_book(paper, 4, moves + moves[-1:]))
            for at, row in enumerate(moves):
                for bad in ((), row[:-1], row + row[-1:], row + (0,)):
                    self.none(case, with_book(paper, 4, moves[:at] + (bad,) + moves[at + 1:]))
                for place, code in enumerate(row):
                    for bad in (-1, len(moves), code - len(moves), 1000000):
                        self.none(case, with_book(paper, 4, moves[:at] + (row[:place] + (bad,) + row[place + 1:],) + moves[at + 1:]))
                    for other in range(len(moves)):
                        told = with_book(paper, 4, moves[:at] + (row[:place] + (other,) + row[place + 1:],) + moves[at + 1:])
                        self.assertIs(judge_codes(*case, told), other == code)

    def test_pairs(self):
        for case in CASES:
            paper = code_paper(*case)
            pairs = paper[3]
            for at, (c, d, row) in enumerate(pairs):
                self.none(case, *[with_part(paper, 3, bad) for bad in (
                    pairs[:at] + pairs[at + 1:], pairs[:at] + pairs[at:at + 1] + pairs[at:], pairs + pairs[at:at + 1],
                    pairs[:at] + ((d, c, row),) + pairs[at + 1:], pairs[:at] + ((c, c, row),) + pairs[at + 1:],
                    pairs[:at] + ((c, len(paper[2][3]), row),) + pairs[at + 1:], pairs[:at] + ((-1, d, row),) + pairs[at + 1:],
                    pairs[:at] + ((c - len(paper[2][3]), d, row),) + pairs[at + 1:], pairs[:at] + ((c, 1000000, row),) + pairs[at + 1:])])
            if len(pairs) > 1:
                self.none(case, with_part(paper, 3, pairs[::-1]), with_part(paper, 3, ()))
            self.none(case, with_part(paper, 3, pairs + ((0, 0, ()),)), with_part(paper, 3, pairs + ((0, len(paper[2][3]), ()),)))

    def test_rows(self):
        case = (HIDING, 3, WHOLE)
        paper = code_paper(*case)
        pairs = paper[3]

        def told(at, row):
            return with_part(paper, 3, pairs[:at] + (pairs[at][:2] + (row,),) + pairs[at + 1:])

        # The codes 0 and 1 have equal views; a put of 1 by a parts them, and so does nothing else.
        for row in (((0, (1,)),), ((0, (0,)), (0, (1,)))):
            book = paper[2]
            self.assertEqual(judge_codes(*case, told(0, row)), row == ((0, (1,)),) or book[3][moved(book, 0, row)] != book[3][moved(book, 1, row)])
        self.none(case, told(0, ()), told(0, ((0, (0,)), (2, (1,)))), told(0, ((2, (1,)),)), told(0, ((2, (1,)), (0, (1,)))))
        for deed in ((1, (1,)), (0, (2,)), (0, ()), (0, ("1",)), (-1, (1,)), (9, ()), (0, (DEEP,)), (0, (1, 1)), (2, (3,))):
            self.none(case, told(0, (deed,)), told(0, ((0, (1,)), deed)), told(0, (deed, (0, (1,)))), told(1, (deed,)))
        # Rows need not be the least ones.
        self.assertIs(judge_codes(*case, told(2, ((2, (0,)),))), book_differs(paper[2], 0, 3, ((2, (0,)),)))
        line = code_paper(LINE, 3, WHOLE)
        longer = ((0, 1, ()), (0, 2, ()), (1, 2, ((1, (1,)),) * 5))
        self.assertIs(judge_codes(LINE, 3, WHOLE, with_part(line, 3, longer)), True)
        self.none((LINE, 3, WHOLE), with_part(line, 3, ((0, 1, ()), (0, 2, ()), (1, 2, ((1, (0,)),)))),
                  with_part(line, 3, ((0, 1, ()), (0, 2, ((0, (0,)),)), (1, 2, ()))))

    def test_against_the_plainest_judge(self):
        rng = random.Random(9)
        seen = {True: 0, False: 0}
        for house in some_houses(30, first=1800) + table_houses(30, first=50, adds=4, retires=3):
            epoch = len(house.events) - 1
            for bundle in unions_of(house, epoch, 3):
                try:
                    paper = code_paper(house, epoch, bundle)
                except TooLarge:
                    continue
                if len(paper[1]) > 25:
                    continue
                search = Search(house, epoch, bundle)
                for _ in range(10):
                    news = rng.sample(range(len(paper[2][3])), len(paper[2][3]))
                    told = changed(rng, renumbered(paper, news))
                    own = judge_by_search(search, told)
                    self.assertIs(judge_codes(house, epoch, bundle, told), own)
                    seen[own] += 1
        self.assertGreater(min(seen.values()), 200)

    def test_as_many_codes_as_classes(self):
        """What is taken gives two states one code exactly if they are alike."""
        rng = random.Random(10)
        taken = 0
        for house in table_houses(60, first=200, adds=4, retires=3):
            epoch = len(house.events) - 1
            bundle = unions_of(house, epoch)[1]
            try:
                paper = code_paper(house, epoch, bundle)
            except TooLarge:
                continue
            classes = dict(classes_of(house, epoch, bundle))
            for _ in range(20):
                told = changed(rng, paper)
                if judge_codes(house, epoch, bundle, told):
                    taken += 1
                    self.assertEqual(len(told[2][3]), len(set(classes.values())))
                    for (one, c), (two, d) in itertools.combinations(told[1], 2):
                        self.assertIs(c == d, classes[one] == classes[two])
        self.assertGreater(taken, 100)


def moved(book, code, row):
    for deed in row:
        code = book[4][code][book[1].index(deed)]
    return code


def book_differs(book, c, d, row):
    return book[3][moved(book, c, row)] != book[3][moved(book, d, row)]


def changed(rng, paper):
    """The paper, or one with some number changed or some row made longer."""
    _, assigned, book, partings = paper
    many = len(book[3])
    word = rng.choice(("same", "code", "start", "view", "move", "row", "row", "row"))
    if word == "code":
        at = rng.randrange(len(assigned))
        assigned = assigned[:at] + ((assigned[at][0], rng.randrange(many)),) + assigned[at + 1:]
    if word == "start" and book[2]:
        at = rng.randrange(len(book[2]))
        book = with_part(book, 2, book[2][:at] + (rng.randrange(many),) + book[2][at + 1:])
    if word == "view":
        at = rng.randrange(many)
        book = with_part(book, 3, book[3][:at] + (rng.choice(book[3]),) + book[3][at + 1:])
    if word == "move" and book[1]:
        at, place = rng.randrange(many), rng.randrange(len(book[1]))
        row = book[4][at][:place] + (rng.randrange(many),) + book[4][at][place + 1:]
        book = with_part(book, 4, book[4][:at] + (row,) + book[4][at + 1:])
    if word == "row" and partings and book[1]:
        at = rng.randrange(len(partings))
        row = tuple(rng.choice(book[1]) for _ in range(rng.randint(0, 3)))
        partings = partings[:at] + (partings[at][:2] + (row,),) + partings[at + 1:]
    return "codes", assigned, book, partings


class Large(unittest.TestCase):

    def large(self, told, house, epoch, bundle):
        with self.assertRaises(TooLarge) as caught:
            code_paper(house, epoch, bundle)
        self.assertEqual(caught.exception.part, told)
        for paper in ((), ("codes", (), ("book", (), (), (), ()), ()), ("codes", (), (), ()), ("x",), ("codes", (((), 0),), ("",), ())):
            with self.assertRaises(TooLarge) as caught:
                judge_codes(house, epoch, bundle, paper)
            self.assertEqual(caught.exception.part, told)

    def test_60_and_61_states(self):
        house = house_of("open a { n : num 0 .. 59 ; }")
        paper = code_paper(house, 0, (("n",),))
        self.assertEqual(len(paper[3]), 60 * 59 // 2)
        self.assertIs(judge_codes(house, 0, (("n",),), paper), True)
        self.assertIs(judge_codes(house, 0, (("n",),), with_part(paper, 3, paper[3][1:])), False)
        self.large("bundle", house_of("open a { n : num 0 .. 60 ; }"), 0, (("n",),))

    def test_400_and_401_parts(self):
        self.large("part", house_of("open a { n : num 0 .. 400 ; rule n <= 2 ; }"), 0, (("n",),))
        fits = house_of("open a { n : num 1 .. 400 ; rule n <= 2 ; }")
        self.assertIs(judge_codes(fits, 0, (("n",),), code_paper(fits, 0, (("n",),))), True)
        house = house_of("open a { n : num 0 .. 60 ; } add b from a { m : num 0 .. 400 ; step n to m by clip ; } retire b ;")
        self.large("bundle", house, 0, (("n",),))
        self.large("part", house, 1, (("n",), ("m",)))
        self.large("part", house, 2, (("n",), ("m",)))


if __name__ == "__main__":
    unittest.main()
