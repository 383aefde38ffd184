"""Let papers: promise [29]."""

import random
import unittest

from small import LINE, Search, every, house_of, is_table, some_houses, strands_by_links, then

from telltrove.letpapers import judge_let, let_paper
from telltrove.reach import reached
from telltrove.verdicts import verdict

ONE = house_of("open a { n : num 0 .. 3 ; rule n <= 1 ; }")
PAIR = house_of("open a { n : num 0 .. 1 ; o : opt num 0 .. 1 ; } add b from a { m : num 0 .. 1 ; p : pick { x , y } ; "
                "step n to m by same ; step o to none by apart [ ] [ ] ; step none to p by apart [ ] x ; } retire a ;")
BROKEN = house_of("open a { n : num 0 .. 2 ; } add b from a { m : num 0 .. 2 ; rule not m = 1 ; step n to m by same ; } retire b ;")
EMPTY = house_of("open a { e : rec { } ; } add b from a { e : rec { } ; } retire a ;")


def judge_by_search(house, paper):
    """What the judge has to say, told in its plainest way."""
    last = len(house.events) - 1
    strands = strands_by_links(house, last)
    if len(paper) != len(strands):
        return False
    return all(len(told) == last + 1 and is_table(Search(house, last, strand), told, True) for strand, told in zip(strands, paper))


def with_states(paper, strand, epoch, states):
    """The paper with other states of a strand in an epoch."""
    told = paper[strand][:epoch] + (tuple(states),) + paper[strand][epoch + 1:]
    return paper[:strand] + (told,) + paper[strand + 1:]


def small(house):
    """Whether the verdict is not that something is large or empty."""
    return verdict(house)[0] in ("let", "breaks")


class LetPaper(unittest.TestCase):

    def test_by_hand(self):
        elder = (((0,),), ((1,),), ((2,),))
        both = (((0,), (0,)), ((1,), (1,)), ((2,), (1,)))
        three = tuple(parts for parts, _ in reached(LINE, 2, (("n",), ("m",), ("k",))))
        self.assertEqual(len(three), 5)
        self.assertEqual(let_paper(LINE), ((elder, both, three, three),))
        self.assertEqual(let_paper(ONE), (((((0,),), ((1,),)),),))
        self.assertEqual(let_paper(EMPTY), ())
        bits = (((0,),), ((1,),))
        opts = tuple(((value,),) for value in ((), (0,), (1,)))
        picks = tuple(((), (value,)) for value in "xy")
        self.assertEqual(let_paper(PAIR), ((bits, (((0,), (0,)), ((1,), (1,))), (((0,), (0,)), ((1,), (1,)))),
                                           (opts, tuple(parts + ((),) for parts in opts), tuple(parts + ((),) for parts in opts)),
                                           ((((),),), picks, picks)))

    def test_all_reached_states(self):
        for house in some_houses(80, fields=3, events=4):
            if verdict(house) != ("let",):
                continue
            last = len(house.events) - 1
            strands = strands_by_links(house, last)
            own = tuple(tuple(tuple(sorted(Search(house, epoch, then(house, epoch, strand)).least_rows())) for epoch in range(last + 1))
                        for strand in strands)
            self.assertEqual(let_paper(house), own)
            self.assertIs(judge_let(house, own), True)


class Judge(unittest.TestCase):

    def test_the_paper_is_taken(self):
        for house in (LINE, ONE, PAIR, EMPTY):
            self.assertIs(judge_let(house, let_paper(house)), True)

    def test_in_other_order_and_twice(self):
        for house in (LINE, PAIR):
            paper = let_paper(house)
            for change in (lambda states: states[::-1], lambda states: states + states, lambda states: states[1:] + states):
                self.assertIs(judge_let(house, tuple(tuple(change(states) for states in told) for told in paper)), True)

    def test_a_state_is_left_out(self):
        for house in (LINE, ONE, PAIR):
            paper = let_paper(house)
            for strand, told in enumerate(paper):
                for epoch, states in enumerate(told):
                    for at in range(len(states)):
                        self.assertIs(judge_let(house, with_states(paper, strand, epoch, states[:at] + states[at + 1:])), False)
                    self.assertIs(judge_let(house, with_states(paper, strand, epoch, ())), False)

    def test_only_a_start_is_left_out(self):
        """Nothing but a put over no paper makes the state."""
        house = house_of("open a { n : num 0 .. 0 ; }")
        self.assertIs(judge_let(house, (((((0,),),),),)), True)
        self.assertIs(judge_let(house, (((),),)), False)
        house = house_of("open a { n : num 0 .. 1 ; } add b from a { m : num 0 .. 1 ; step n to m by apart 0 0 ; }")
        paper = let_paper(house)
        self.assertEqual(len(paper[0][1]), 4)
        # Each put over a paper keeps what the other version has, so without starts these are closed.
        self.assertIs(judge_let(house, (((),) + paper[0][1:],)), False)
        self.assertIs(judge_let(house, (((),), ())), False)

    def test_only_an_extension_is_left_out(self):
        """In the next epoch nothing else would make the state."""
        house = house_of("open a { n : num 0 .. 2 ; } add b from a { m : num 0 .. 1 ; rule m = 0 ; step n to m by table [ 0 , 0 , 0 ] [ 0 , 0 ] ; } ")
        paper = ((((((0,),), ((1,),), ((2,),))), (((0,), (0,)), ((1,), (0,)), ((2,), (0,)))),)
        self.assertIs(judge_let(house, paper), True)
        self.assertEqual(let_paper(house), paper)
        house = house_of("open a { n : num 0 .. 2 ; } add b from a { m : num 0 .. 1 ; step n to m by clip ; } retire a ; "
                         "add c from b { k : num 0 .. 1 ; step m to k by same ; }")
        paper = let_paper(house)
        # Behind the retirement only elder states have 2 in a: what deeds make of the others has not.
        self.assertIn(((2,), (1,)), paper[0][2])
        for epoch, gone in ((2, ((2,), (1,))), (3, ((2,), (1,), (1,)))):
            states = tuple(parts for parts in paper[0][epoch] if parts != gone)
            self.assertIs(judge_let(house, with_states(paper, 0, epoch, states)), False)
        without = with_states(paper, 0, 2, tuple(parts for parts in paper[0][2] if parts != ((2,), (1,))))
        self.assertIs(judge_let(house, with_states(without, 0, 3, tuple(parts for parts in paper[0][3] if parts != ((2,), (1,), (1,))))), False)

    def test_a_forbidden_state(self):
        self.assertIs(judge_let(ONE, (((((0,),), ((1,),), ((2,),)),),)), False)
        self.assertIs(judge_let(ONE, (((((2,),), ((0,),), ((1,),), ((3,),)),),)), False)
        self.assertIs(judge_let(house_of("open a { n : num 0 .. 3 ; rule n <= 2 ; }"), (((((0,),), ((1,),), ((2,),)),),)), True)
        # All that is reached of a house that breaks is closed, but forbidden to b.
        strand = (("n",), ("m",))
        states = [tuple(parts for parts, _ in reached(BROKEN, epoch, then(BROKEN, epoch, strand))) for epoch in range(3)]
        self.assertIs(judge_let(BROKEN, (tuple(states),)), False)
        self.assertIs(judge_let(BROKEN, ((states[0], states[1][:1] + states[1][2:], states[2]),)), False)
        # A retired version minds nothing.
        house = house_of("open a { n : num 0 .. 2 ; rule n <= 1 ; } add b from a { m : num 0 .. 1 ; step n to m by clip ; } retire a ;")
        paper = let_paper(house)
        self.assertIs(judge_let(house, with_states(paper, 0, 2, paper[0][2] + (((2,), (1,)),))), True)
        self.assertIs(judge_let(house, with_states(paper, 0, 1, paper[0][1] + (((2,), (1,)),))), False)
        both = with_states(with_states(paper, 0, 1, paper[0][1] + (((2,), (1,)),)), 0, 2, paper[0][2] + (((2,), (1,)),))
        self.assertIs(judge_let(house, both), False)

    def test_more_states_than_are_reached(self):
        house = house_of("open a { n : num 0 .. 2 ; } add b from a { m : num 0 .. 2 ; step n to m by clip ; } ")
        paper = let_paper(house)
        more = paper[0][1] + (((0,), (2,)),)
        # The state is not in tune; each deed leads from it to one that is there.
        self.assertIs(judge_let(house, with_states(paper, 0, 1, more)), True)
        all_nine = tuple(((n,), (m,)) for n in range(3) for m in range(3))
        self.assertIs(judge_let(house, with_states(paper, 0, 1, all_nine)), True)
        keeps = house_of("open a { n : num 0 .. 1 ; } add b from a { m : num 0 .. 3 ; rule m <= 2 ; step n to m by apart 0 0 ; } retire b ; ")
        paper = let_paper(keeps)
        # Over the state with 3 the deeds of a leave 3 there, so all of them have to be there; b would mind while it lives.
        three = tuple(((n,), (3,)) for n in (0, 1))
        self.assertIs(judge_let(keeps, with_states(paper, 0, 2, paper[0][2] + three)), True)
        self.assertIs(judge_let(keeps, with_states(paper, 0, 2, paper[0][2] + three[:1])), False)
        self.assertIs(judge_let(keeps, with_states(paper, 0, 2, paper[0][2] + three[1:])), False)
        # A state more in one epoch asks for its extension in the next one.
        late = house_of("open a { n : num 0 .. 2 ; } add b from a { m : num 0 .. 2 ; step n to m by clip ; } retire b ;")
        paper = let_paper(late)
        self.assertIs(judge_let(late, with_states(paper, 0, 1, paper[0][1] + (((0,), (2,)),))), False)
        self.assertIs(judge_let(late, with_states(paper, 0, 2, paper[0][2] + (((0,), (2,)),))), True)

    def test_a_wrong_number_of_parts(self):
        paper = let_paper(PAIR)
        for strand, told in enumerate(paper):
            for epoch, states in enumerate(told):
                for bad in ((), states[0][:-1], states[0] + ((),), states[0] + states[0][-1:], (states[0][0] + (0,),) + states[0][1:],
                            states[0][:-1] + (states[0][-1] + (1,),), ((),) * 9, None):
                    self.assertIs(judge_let(PAIR, with_states(paper, strand, epoch, states + (bad,))), False)

    def test_values_that_are_none(self):
        deep = 0
        for _ in range(26):
            deep = (deep, "x")
        for bad in (-1, 2, 1000000, "0", "x", "", (), (0,), ((),), deep):
            paper = let_paper(PAIR)
            for epoch, states in enumerate(paper[0]):
                for version in range(len(states[0])):
                    parts = states[0][:version] + ((bad,),) + states[0][version + 1:]
                    self.assertIs(judge_let(PAIR, with_states(paper, 0, epoch, states + (parts,))), False)
                    self.assertIs(judge_let(PAIR, with_states(paper, 0, epoch, (parts,) + states[1:])), False)
        paper = let_paper(PAIR)
        for bad in (0, (2,), ("x",), (0, 0), ((0,),), "x", deep):
            self.assertIs(judge_let(PAIR, with_states(paper, 1, 2, paper[1][2] + (((bad,), ()),))), False)
        for bad in ("z", "", 0, ("x",), ()):
            self.assertIs(judge_let(PAIR, with_states(paper, 2, 2, paper[2][2] + (((), (bad,)),))), False)

    def test_strands_and_epochs_too_many_or_too_few(self):
        for house in (LINE, ONE, PAIR):
            paper = let_paper(house)
            for bad in ((), paper[:-1], paper[1:], paper + paper[-1:], paper + ((),), paper + (((),) * len(house.events),)):
                self.assertIs(judge_let(house, bad), False)
            for strand, told in enumerate(paper):
                for bad in ((), told[:-1], told[1:], told + told[-1:], told + ((),), told[:1] + told):
                    self.assertIs(judge_let(house, paper[:strand] + (bad,) + paper[strand + 1:]), False)
        for bad in (((),), (((),) * 3,), ((((),),),) * 2):
            self.assertIs(judge_let(EMPTY, bad), False)

    def test_no_paper_for_a_house_that_breaks(self):
        for house in some_houses(60, first=20000, events=4, fields=1, rules=(0, 1)):
            if verdict(house)[0] != "breaks":
                continue
            last = len(house.events) - 1
            states = tuple(tuple(every(house, then(house, epoch, strand)) for epoch in range(last + 1))
                           for strand in strands_by_links(house, last))
            if all(len(page) < 100 for told in states for page in told) and not_large(house):
                self.assertIs(judge_let(house, states), False)

    def test_against_the_plainest_judge(self):
        rng = random.Random(7)
        seen = {True: 0, False: 0}
        for house in some_houses(60, first=21000, events=4, fields=2, rules=(0, 0, 1)):
            if verdict(house) != ("let",):
                continue
            paper = let_paper(house)
            for _ in range(12):
                told = changed(rng, house, paper)
                own = judge_by_search(house, told)
                self.assertIs(judge_let(house, told), own)
                seen[own] += 1
        self.assertGreater(min(seen.values()), 60)


def not_large(house):
    last = len(house.events) - 1
    return all(Search(house, last, strand).least_rows(60) is not None for strand in strands_by_links(house, last))


def changed(rng, house, paper):
    """The paper with more states in some places, or with fewer."""
    for strand, told in enumerate(paper):
        bundle = strands_by_links(house, len(house.events) - 1)[strand]
        for epoch, states in enumerate(told):
            all_states = every(house, then(house, epoch, bundle))
            if rng.random() < 0.2:
                states = states + tuple(rng.sample(all_states, min(len(all_states), rng.choice((1, 2, 8, 101)))))
            if rng.random() < 0.05 and states:
                at = rng.randrange(len(states))
                states = states[:at] + states[at + 1:]
            paper = with_states(paper, strand, epoch, rng.sample(states, len(states)))
    return paper


if __name__ == "__main__":
    unittest.main()
