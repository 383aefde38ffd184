"""Nothing is changed, and the same question is answered the same way behind other questions, also about other houses and bundles:
promise [2] for what judges houses and makes codes."""

import random
import unittest

from small import HIDING, LINE, house_of, let_wholes, some_houses, some_whole_row, state_behind, strands_by_links, table_houses, unions_of

from telltrove.books import book_of, code_behind
from telltrove.bundles import extended_part, spread_part
from telltrove.claims import claimed, judge_claim
from telltrove.classes import classes_of
from telltrove.codepapers import code_paper, judge_codes
from telltrove.errors import TroveError
from telltrove.forgets import forgotten, hidden
from telltrove.forms import leaves_of, whole_of
from telltrove.houses import House
from telltrove.kinds import value_at
from telltrove.letpapers import judge_let, let_paper
from telltrove.partings import parting
from telltrove.parts import joined, let_parts_of, part_of, part_state
from telltrove.reach import reached
from telltrove.recodes import recode
from telltrove.rows import deeds_of, played, whole_row
from telltrove.strands import bundle_of, strands_of
from telltrove.tables import Tables
from telltrove.verdicts import verdict

LARGE = house_of("open a { n : num 0 .. 60 ; z : num 0 .. 1 ; } "
                 "add b from a { m : num 0 .. 400 ; step n to m by clip ; step z to none by apart 0 [ ] ; } retire b ;")
BROKEN = house_of("open a { n : num 0 .. 2 ; } add b from a { m : num 0 .. 2 ; rule not m = 1 ; step n to m by same ; } retire a ;")
EMPTY = house_of("open a { n : num 0 .. 2 ; rule not n same n ; }")
# Two houses with the same names and leaves, but other ways and rules.
TWINS = (house_of("open a { n : num 0 .. 2 ; } add b from a { n : num 0 .. 2 ; step n to n by same ; } retire b ;"),
         house_of("open a { n : num 0 .. 2 ; } add b from a { n : num 0 .. 2 ; step n to n by apart 1 2 ; } retire b ;"),
         house_of("open a { n : num 0 .. 2 ; rule not n = 1 ; } add b from a { n : num 0 .. 2 ; rule not n = 1 ; step n to n by same ; } retire a ;"))
HOUSES = [LINE, HIDING, LARGE, BROKEN, EMPTY, *TWINS, *some_houses(8, first=4000, rules=(0, 0, 1)), *table_houses(3, first=60, adds=3, retires=2)]


def questions():
    """Questions, each a function and its arguments; houses are told by their events."""
    rng = random.Random(1)
    asked = []
    for house in HOUSES:
        asked.append((verdict, house))
        let = verdict(house) == ("let",)
        if let:
            paper = let_paper(house)
            asked += [(let_paper, house), (judge_let, house, paper), (judge_let, house, paper[1:]), (judge_let, house, paper + paper[:1])]
        for epoch in range(len(house.events)):
            asked += [(strands_of, house, epoch), (bundle_of, house, epoch, ())]
            strands = strands_by_links(house, epoch)
            for version in range(house.present(epoch)):
                whole = whole_of(house.forms[version], tuple(value_at(kind, 0) for _, kind in leaves_of(house.forms[version])))
                asked += [(part_of, house, strand, version, whole) for strand in strands]
                asked.append((joined, house, epoch, version, tuple(part_of(house, strand, version, whole) for strand in strands)))
            asked += claims(house, epoch)
            for bundle in unions_of(house, epoch, 3):
                asked += in_bundle(rng, house, epoch, bundle, let)
            if let and house.events[epoch][0] == "retire":
                asked.append((forgotten, house, epoch))
    return asked


def claims(house, epoch):
    asked = []
    for version in house.living(epoch):
        for path, kind in leaves_of(house.forms[version])[:2]:
            formula = ("same", house.names[version] + ":" + path, house.names[version] + ":" + path)
            asked += [(bundle_of, house, epoch, ((version, path),)), (claimed, house, epoch, formula), (claimed, house, epoch, ("not", formula)),
                      (judge_claim, house, epoch, formula, ()), (judge_claim, house, epoch, formula, ((),) * (epoch + 1))]
            try:
                asked.append((judge_claim, house, epoch, formula, claimed(house, epoch, formula)[1]))
            except TroveError:
                pass
    return asked


def in_bundle(rng, house, epoch, bundle, let):
    asked = [(function, house, epoch, bundle) for function in (deeds_of, reached, classes_of, book_of, code_paper, hidden)]
    if let and epoch:
        asked.append((recode, house, epoch, bundle))
    asked += [(let_parts_of, house, bundle, version) for version in range(len(bundle))]
    asked += [(part_state, house, bundle, None), (played, house, epoch, bundle, ()), (whole_row, house, bundle, ())]
    if epoch:
        asked.append((extended_part, house, epoch, bundle, None))
    try:
        states = reached(house, epoch, bundle)
        paper = code_paper(house, epoch, bundle)
    except TroveError:
        return asked + [(judge_codes, house, epoch, bundle, ())]
    asked += [(judge_codes, house, epoch, bundle, paper), (judge_codes, house, epoch, bundle, paper[:1] + (paper[1][1:],) + paper[2:])]
    many = len(paper[2][3])
    for parts, row in rng.sample(states, min(2, len(states))):
        asked += [(played, house, epoch, bundle, row)]
        if epoch + 1 < len(house.events) and house.present(epoch + 1) == house.present(epoch):
            asked.append((extended_part, house, epoch + 1, bundle, parts))
        if verdict(house)[0] in ("let", "breaks"):
            asked.append((whole_row, house, bundle, row))
        for version, part in paper[2][1][:2]:
            asked += [(spread_part, house, bundle, parts, version, part), (spread_part, house, bundle, None, version, part)]
        c, d = rng.randrange(many), rng.randrange(many)
        asked += [(parting, paper[2], c, d), (parting, paper[2], c, c), (code_behind, paper[2], c, paper[2][1][:3])]
    return asked


def in_tables(house):
    """Questions to tables: the word of a method and its arguments."""
    rng = random.Random(2)
    asked = []
    tables = Tables(house)
    for epoch in range(len(house.events)):
        state = state_behind(house, epoch, some_whole_row(rng, house, epoch))
        version = rng.choice(house.living(epoch))
        whole = rng.choice(let_wholes(house.forms[version]))
        codes = tables.codes(epoch, state)
        asked += [("many", epoch), ("codes", epoch, state), ("whole", epoch, codes, version), ("started", epoch, version, whole),
                  ("moved", epoch, codes, version, whole), ("lifted", epoch, len(house.events) - 1, codes),
                  ("parted", epoch, codes, tables.moved(epoch, codes, version, whole)), ("parted", epoch, codes, codes)]
        asked += [("book", epoch, number) for number in range(len(codes))]
    return asked


def answer(question):
    """The answer as a text, in which True is not 1, or the error and its attributes."""
    try:
        return repr(question[0](*question[1:]))
    except TroveError as error:
        return type(error).__name__ + repr(vars(error))


def fresh(question):
    """The question with equal arguments that are other objects."""
    return tuple(House(eval(repr(part.events))) if isinstance(part, House) else part if callable(part) else eval(repr(part)) for part in question)


class Repeats(unittest.TestCase):

    def test_the_same_answers_in_any_order(self):
        asked = questions()
        self.assertGreater(len(asked), 900)
        houses = [repr(house.events) for house in HOUSES]
        arguments = repr([question[2:] for question in asked])
        first = [answer(question) for question in asked]
        self.assertGreater(len(set(first)), 300)
        for seed in range(2):
            order = random.Random(seed).sample(range(len(asked)), len(asked))
            for at in order:
                self.assertEqual(answer(asked[at]), first[at], asked[at][0])
        self.assertEqual(repr([question[2:] for question in asked]), arguments)
        self.assertEqual([repr(house.events) for house in HOUSES], houses)

    def test_equal_arguments(self):
        for question in questions()[::3]:
            self.assertEqual(answer(fresh(question)), answer(question), question[0])

    def test_all_parts_of_the_houses_stay(self):
        before = [repr((house.events, house.names, house.parents, house.forms, house.changes)) for house in HOUSES]
        for question in questions()[::2]:
            answer(question)
        self.assertEqual([repr((house.events, house.names, house.parents, house.forms, house.changes)) for house in HOUSES], before)

    def test_only_tuples_numbers_strings_and_none_are_told(self):
        def judge(thing):
            self.assertIn(type(thing), (tuple, int, str, type(None)))
            if isinstance(thing, tuple):
                for inner in thing:
                    judge(inner)

        for question in questions():
            try:
                told = question[0](*question[1:])
            except TroveError:
                continue
            if question[0].__name__.startswith("judge_"):
                self.assertIs(type(told), bool)
            else:
                judge(told)
        for house in (LINE, HIDING):
            tables = Tables(house)
            for word, *arguments in in_tables(house):
                judge(getattr(tables, word)(*arguments))

    def test_tables_by_turns(self):
        """Several tables, of equal houses too, are asked by turns, and other questions between."""
        houses = [house for house in HOUSES if verdict(house) == ("let",)]
        asked = [(at, question) for at, house in enumerate(houses) for question in in_tables(house)]
        alone = [repr(getattr(Tables(houses[at]), word)(*arguments)) for at, (word, *arguments) in asked[::5]]
        rng = random.Random(3)
        others = questions()
        turns = [[Tables(house) for house in houses], [Tables(House(house.events)) for house in houses]]
        answers = {}
        for turn in range(4):
            for place in rng.sample(range(len(asked)), len(asked)):
                at, (word, *arguments) = asked[place]
                told = repr(getattr(turns[rng.randrange(2)][at], word)(*arguments))
                self.assertEqual(answers.setdefault(place, told), told)
                if place % 40 == turn:
                    answer(rng.choice(others))
        self.assertEqual([answers[place] for place in range(0, len(asked), 5)], alone)

    def test_errors_leave_no_trace(self):
        for _ in range(2):
            for function in (reached, classes_of, book_of, code_paper, hidden):
                for epoch in range(3):
                    self.assertIn("TooLarge", answer((function, LARGE, epoch, (("n",), ("m",))[:LARGE.present(epoch)])))
                self.assertNotIn("TooLarge", answer((function, LARGE, 2, (("z",), ()))))
            for house in (LARGE, BROKEN, EMPTY):
                self.assertIn("Refused", answer((Tables, house)))
            self.assertEqual(Tables(LINE).many(3), (3,))
            self.assertEqual(len(strands_by_links(LARGE, 1)), len(strands_of(LARGE, 1)))


if __name__ == "__main__":
    unittest.main()
