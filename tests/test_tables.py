"""Tables: promise [36]."""

import itertools
import random
import unittest

from small import (HIDING, LINE, PAIR, Search, house_of, let_wholes, parts_in, some_houses, some_whole_row, state_behind,
                   strands_by_links, table_houses, told_apart)

from telltrove.books import book_of
from telltrove.classes import classes_of
from telltrove.errors import Refused
from telltrove.partings import parting
from telltrove.recodes import recode
from telltrove.spreads import extended, spread
from telltrove.tables import Tables
from telltrove.verdicts import verdict


def let_houses():
    houses = [LINE, HIDING, PAIR] + some_houses(40, first=2500, rules=(0, 0, 0, 1)) + table_houses(25, first=300, adds=4, retires=3)
    houses += some_houses(15, first=2600, fields=3, events=4)
    return [house for house in houses if verdict(house) == ("let",)]


def codes_by_strands(house, epoch, state, known):
    """The codes of a whole state, by telltrove.classes."""
    codes = []
    for strand in strands_by_links(house, epoch):
        if (epoch, strand) not in known:
            known[epoch, strand] = dict(classes_of(house, epoch, strand))
        codes.append(known[epoch, strand][parts_in(house, strand, state)])
    return tuple(codes)


def states_at(rng, house, epoch, most=8):
    """Some whole states that rows of deeds reach."""
    return [state_behind(house, epoch, some_whole_row(rng, house, epoch)) for _ in range(most)]


class RefusedHouses(unittest.TestCase):

    def test_each_other_verdict(self):
        for text in ("open a { n : num 0 .. 2 ; } add b from a { m : num 0 .. 2 ; rule not m = 1 ; step n to m by same ; }",
                     "open a { n : num 1 .. 401 ; }", "open a { n : num 0 .. 60 ; }", "open a { n : num 0 .. 1 ; rule not n same n ; }",
                     "open a { n : num 0 .. 2 ; } add b from a { m : num 0 .. 2 ; rule m <= -1 ; step n to m by same ; } retire b ;"):
            house = house_of(text)
            for _ in range(2):
                with self.assertRaises(Refused) as caught:
                    Tables(house)
                self.assertEqual(caught.exception.verdict, verdict(house))
        self.assertEqual(Tables(LINE).house, LINE)

    def test_small_houses(self):
        words = set()
        for house in some_houses(60, first=2700, rules=(0, 1, 2), least_lets=False):
            told = verdict(house)
            words.add(told[0])
            if told == ("let",):
                self.assertIs(Tables(house).house, house)
            else:
                with self.assertRaises(Refused) as caught:
                    Tables(house)
                self.assertEqual(caught.exception.verdict, told)
        self.assertGreaterEqual(words, {"let", "breaks", "empty"})


class ByHand(unittest.TestCase):

    def test_the_line(self):
        tables = Tables(LINE)
        self.assertIs(tables.house, LINE)
        self.assertEqual(tables.book(3, 0), book_of(LINE, 3, (("n",), ("m",), ("k",))))
        self.assertEqual([tables.many(epoch) for epoch in range(4)], [(3,), (3,), (5,), (3,)])
        self.assertEqual(tables.codes(2, ((2,), (1,), (2,))), (4,))
        self.assertEqual(tables.codes(3, ((2,), (1,), (2,))), (2,))
        self.assertEqual(tables.whole(2, (4,), 0), (2,))
        self.assertEqual(tables.whole(2, (4,), 1), (1,))
        self.assertEqual(tables.whole(2, (4,), 2), (2,))
        self.assertEqual(tables.whole(3, (2,), 1), (1,))
        self.assertEqual(tables.started(2, 2, (2,)), (2,))
        self.assertEqual(tables.started(0, 0, (2,)), (2,))
        self.assertEqual(tables.moved(2, (3,), 2, (2,)), (4,))
        self.assertEqual(tables.moved(2, (4,), 0, (1,)), (2,))
        self.assertEqual(tables.moved(3, (2,), 1, (1,)), (2,))
        self.assertEqual(tables.lifted(0, 0, (2,)), (2,))
        self.assertEqual(tables.lifted(0, 2, (2,)), (3,))
        self.assertEqual(tables.lifted(0, 3, (2,)), (2,))
        self.assertEqual(tables.lifted(2, 3, (4,)), (2,))
        self.assertEqual(tables.lifted(3, 3, (1,)), (1,))
        self.assertIsNone(tables.parted(3, (1,), (1,)))
        self.assertEqual(tables.parted(3, (1,), (2,)), (0, ()))

    def test_several_strands(self):
        tables = Tables(PAIR)
        self.assertEqual([tables.many(epoch) for epoch in range(5)], [(3, 3, 2), (3, 3, 2, 2), (2, 3, 1, 2), (8, 9, 1), (2, 3, 1)])
        self.assertEqual(tables.codes(0, ((2, (1,), (), ("y",)),)), (2, 2, 1))
        state = ((2, (1,), (), ("y",)), ((1,), 1, 0))
        self.assertEqual(tables.codes(1, state), (2, 2, 1, 0))
        self.assertEqual(tables.codes(2, state), (1, 2, 0, 0))
        self.assertEqual(tables.whole(1, (2, 2, 1, 0), 0), (2, (1,), (), ("y",)))
        self.assertEqual(tables.whole(1, (2, 2, 1, 0), 1), ((1,), 1, 0))
        self.assertEqual(tables.whole(2, (1, 2, 0, 0), 1), ((1,), 1, 0))
        self.assertEqual(tables.started(1, 0, (2, (1,), (), ("y",))), (2, 2, 1, 1))
        self.assertEqual(tables.moved(1, (2, 2, 1, 0), 1, ((), 0, 1)), (0, 0, 1, 1))
        self.assertEqual(tables.lifted(0, 2, (2, 1, 1)), (1, 1, 0, 1))
        self.assertEqual(tables.parted(1, (2, 2, 1, 0), (2, 1, 0, 0)), (1, ()))
        self.assertEqual(tables.parted(1, (2, 2, 1, 0), (2, 2, 0, 1)), (2, ()))
        self.assertIsNone(tables.parted(1, (2, 2, 1, 0), (2, 2, 1, 0)))

    def test_a_parting_row(self):
        tables = Tables(HIDING)
        self.assertEqual(tables.parted(3, (0,), (1,)), (0, ((0, (1,)),)))
        self.assertEqual(tables.parted(3, (1,), (0,)), (0, ((0, (1,)),)))

    def test_no_strands(self):
        house = house_of("open a { e : rec { } ; } add b from a { e : rec { } ; f : rec { } ; } retire a ;")
        tables = Tables(house)
        for epoch in range(3):
            self.assertEqual(tables.many(epoch), ())
            self.assertEqual(tables.codes(epoch, (((),), ((), ()))[:house.present(epoch)]), ())
            self.assertEqual(tables.lifted(0, epoch, ()), ())
            self.assertIsNone(tables.parted(epoch, (), ()))
        self.assertEqual(tables.started(0, 0, ((),)), ())
        self.assertEqual(tables.moved(1, (), 1, ((), ())), ())
        self.assertEqual(tables.whole(1, (), 1), ((), ()))


class Compared(unittest.TestCase):

    def test_books_and_numbers(self):
        for house in let_houses():
            tables = Tables(house)
            for epoch in range(len(house.events)):
                books = [book_of(house, epoch, strand) for strand in strands_by_links(house, epoch)]
                self.assertEqual([tables.book(epoch, number) for number in range(len(books))], books)
                self.assertEqual(tables.many(epoch), tuple(len(book[3]) for book in books))

    def test_with_what_is_done_to_states(self):
        rng = random.Random(21)
        for house in let_houses():
            tables = Tables(house)
            known = {}
            last = len(house.events) - 1
            for epoch in range(last + 1):
                for state in states_at(rng, house, epoch):
                    codes = tables.codes(epoch, state)
                    self.assertEqual(codes, codes_by_strands(house, epoch, state, known))
                    for version in house.living(epoch):
                        self.assertEqual(tables.whole(epoch, codes, version), state[version])
                        for whole in rng.sample(let_wholes(house.forms[version]), 1):
                            self.assertEqual(tables.started(epoch, version, whole),
                                             codes_by_strands(house, epoch, spread(house, epoch, None, version, whole), known))
                            self.assertEqual(tables.moved(epoch, codes, version, whole),
                                             codes_by_strands(house, epoch, spread(house, epoch, state, version, whole), known))
                    self.assertEqual(tables.lifted(epoch, epoch, codes), codes)
                    later = state
                    for high in range(epoch + 1, last + 1):
                        later = extended(house, high, later)
                        self.assertEqual(tables.lifted(epoch, high, codes), codes_by_strands(house, high, later, known))

    def test_lifted_by_the_recodes_of_all_events_between(self):
        for house in let_houses()[:30]:
            tables = Tables(house)
            for epoch in range(1, len(house.events)):
                elders = strands_by_links(house, epoch - 1)
                for codes in itertools.islice(itertools.product(*[range(many) for many in tables.many(epoch - 1)]), 40):
                    own = []
                    for strand in strands_by_links(house, epoch):
                        inner = tuple(code for code, elder in zip(codes, elders)
                                      if any(set(here) & set(there) for here, there in zip(elder, strand)))
                        own.append(dict(recode(house, epoch, strand))[inner])
                    self.assertEqual(tables.lifted(epoch - 1, epoch, codes), tuple(own))
                    for high in range(epoch, len(house.events)):
                        self.assertEqual(tables.lifted(epoch - 1, high, codes), tables.lifted(epoch, high, tuple(own)))

    def test_each_combination_of_codes_is_that_of_some_paper(self):
        for house in let_houses()[:25]:
            tables = Tables(house)
            last = len(house.events) - 1
            states = all_states(house, last, 400)
            if states is None:
                continue
            known = {}
            codes = {codes_by_strands(house, last, state, known) for state in states}
            self.assertEqual(codes, set(itertools.product(*[range(many) for many in tables.many(last)])))

    def test_parted(self):
        rng = random.Random(22)
        seen = set()
        for house in let_houses():
            tables = Tables(house)
            for epoch in range(len(house.events)):
                for _ in range(6):
                    one, two = [tuple(rng.randrange(many) for many in tables.many(epoch)) for _ in range(2)]
                    if rng.random() < 0.5:
                        two = tuple(rng.choice((c, c, d)) for c, d in zip(one, two))
                    unlike = [number for number, (c, d) in enumerate(zip(one, two)) if c != d]
                    own = None
                    if unlike:
                        number = unlike[0]
                        own = (number, parting(tables.book(epoch, number), one[number], two[number]))
                        seen.add(number)
                        seen.add(("row", len(own[1])))
                    self.assertEqual(tables.parted(epoch, one, two), own)
        self.assertGreaterEqual(seen, {0, 1, 2, ("row", 0), ("row", 1)})

    def test_two_papers_have_the_same_codes_if_no_row_tells_them_apart(self):
        """By a search over rows of whole deeds of living versions."""
        rng = random.Random(23)
        seen = {True: 0, False: 0}
        for house in let_houses():
            if max(len(let_wholes(form)) for form in house.forms) > 12:
                continue
            tables = Tables(house)
            for epoch in range(len(house.events)):
                states = states_at(rng, house, epoch, 10)
                for one, two in itertools.combinations(states, 2):
                    same = tables.codes(epoch, one) == tables.codes(epoch, two)
                    if one != two:
                        self.assertIs(told_apart(house, epoch, one, two), not same)
                        seen[same] += 1
        self.assertGreater(min(seen.values()), 40)

    def test_the_row_of_parted_tells_papers_apart(self):
        rng = random.Random(24)
        rows = 0
        for house in [HIDING] + table_houses(40, first=600, adds=4, retires=3):
            if verdict(house) != ("let",):
                continue
            tables = Tables(house)
            last = len(house.events) - 1
            strand, = strands_by_links(house, last)
            search = Search(house, last, strand)
            for one, two in itertools.combinations(states_at(rng, house, last, 12), 2):
                told = tables.parted(last, tables.codes(last, one), tables.codes(last, two))
                if told is None:
                    continue
                rows += len(told[1]) > 0
                for version, part in told[1]:
                    one, two = spread(house, last, one, version, part), spread(house, last, two, version, part)
                self.assertNotEqual(search.view(one), search.view(two))
        self.assertGreater(rows, 5)


def all_states(house, epoch, most):
    """All whole states that are reached, None if there are more."""
    states = []
    for past in range(epoch + 1):
        states = [extended(house, past, state) for state in states] if past else []
        seen = set(states)
        queue = [None] + states
        for state in queue:
            for version in house.living(past):
                for whole in let_wholes(house.forms[version]):
                    after = spread(house, past, state, version, whole)
                    if after not in seen:
                        seen.add(after)
                        queue.append(after)
            if len(queue) > most:
                return None
        states = queue[1:]
    return states


class Turns(unittest.TestCase):

    def test_several_tables_by_turns_and_in_any_order(self):
        rng = random.Random(25)
        houses = let_houses()[:12]
        questions = []
        for at, house in enumerate(houses):
            for epoch in range(len(house.events)):
                state = states_at(rng, house, epoch, 1)[0]
                tables = Tables(house)
                codes = tables.codes(epoch, state)
                version = rng.choice(house.living(epoch))
                whole = rng.choice(let_wholes(house.forms[version]))
                last = len(house.events) - 1
                questions += [(at, "codes", epoch, state), (at, "many", epoch), (at, "whole", epoch, codes, version),
                              (at, "started", epoch, version, whole), (at, "moved", epoch, codes, version, whole),
                              (at, "lifted", epoch, last, codes), (at, "parted", epoch, codes, tables.started(epoch, version, whole))]
                questions += [(at, "book", epoch, number) for number in range(len(codes))]
        alone = [ask(Tables(houses[question[0]]), question) for question in questions]
        self.assertEqual([ask(Tables(houses[question[0]]), question) for question in questions[::7]], alone[::7])
        for _ in range(3):
            both = [[Tables(house) for house in houses] for _ in range(2)]
            order = rng.sample(range(len(questions)), len(questions))
            for at in order:
                question = questions[at]
                self.assertEqual(ask(both[at % 2][question[0]], question), alone[at])
            for at in order[::-1]:
                question = questions[at]
                self.assertEqual(ask(both[1][question[0]], question), alone[at])


def ask(tables, question):
    _, word, *arguments = question
    return {"codes": tables.codes, "many": tables.many, "whole": tables.whole, "started": tables.started, "moved": tables.moved,
            "lifted": tables.lifted, "parted": tables.parted, "book": tables.book}[word](*arguments)


if __name__ == "__main__":
    unittest.main()
