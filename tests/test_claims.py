"""Claims: promise [30]."""

import random
import unittest

from small import LINE, Search, every, house_of, is_table, some_houses, strands_by_links, then, union, values_of

from telltrove.claims import claimed, judge_claim
from telltrove.errors import TooLarge
from telltrove.forms import leaves_of
from telltrove.formulas import holds, paths_of
from telltrove.reach import reached
from telltrove.rows import played

PAIR = house_of("open a { n : num 0 .. 1 ; o : opt num 0 .. 1 ; h : rec { s : num 0 .. 2 ; } ; } "
                "add b from a { m : num 0 .. 1 ; o : opt num 0 .. 1 ; step n to m by same ; step o to o by same ; "
                "step h . s to none by apart 0 [ ] ; } "
                "retire a ; add c from b { m : num 0 .. 2 ; step m to m by clip ; step o to none by apart [ ] [ ] ; }")


def bundle_about(house, epoch, formula):
    nodes = [(house.names.index(path.split(":")[0]), path.split(":")[1]) for path in paths_of(formula)]
    strands = strands_by_links(house, epoch)
    return union(house, epoch, [strand for strand in strands if any(path in strand[version] for version, path in nodes)])


def is_true(house, bundle, formula, parts):
    values = {house.names[version] + ":" + path: value for version, paths in enumerate(bundle)
              for path, value in zip(paths, parts[version])}
    paths = paths_of(formula)
    return holds(formula, paths, tuple(values[path] for path in paths))


def large(test, told, function, *arguments):
    with test.assertRaises(TooLarge) as caught:
        function(*arguments)
    test.assertEqual(caught.exception.part, told)


class Claimed(unittest.TestCase):

    def test_the_line(self):
        strand = (("n",), ("m",), ("k",))
        paper = tuple(tuple(parts for parts, _ in reached(LINE, epoch, then(LINE, epoch, strand))) for epoch in range(4))
        self.assertEqual(claimed(LINE, 2, ("upto", "a:n", "c:k", 0)), ("breaks", ((0, 0, (2,)),)))
        self.assertEqual(claimed(LINE, 2, ("upto", "c:k", "a:n", 0)), ("breaks", ((2, 2, (2,)),)))
        self.assertEqual(claimed(LINE, 2, ("not", ("and", ("is", "a:n", 2), ("is", "c:k", 2)))),
                         ("breaks", ((0, 0, (2,)), (2, 2, (2,)))))
        self.assertEqual(claimed(LINE, 2, ("upto", "b:m", "a:n", 0)), ("holds", paper[:3]))
        self.assertEqual(claimed(LINE, 3, ("upto", "b:m", "a:n", 0)), ("holds", paper))
        self.assertEqual(claimed(LINE, 1, ("upto", "b:m", "a:n", 0)), ("holds", paper[:2]))
        self.assertEqual(claimed(LINE, 0, ("most", "a:n", 2)), ("holds", paper[:1]))
        self.assertEqual(claimed(LINE, 0, ("most", "a:n", 0)), ("breaks", ((0, 0, (1,)),)))

    def test_the_epoch_matters(self):
        formula = ("same", "a:n", "b:m")
        house = house_of("open a { n : num 0 .. 1 ; } add b from a { m : num 0 .. 1 ; step n to m by same ; } "
                         "add c from b { k : num 0 .. 2 ; step m to k by clip ; } ")
        self.assertEqual(claimed(house, 1, formula)[0], "holds")
        self.assertEqual(len(claimed(house, 1, formula)[1]), 2)
        self.assertEqual(len(claimed(house, 2, formula)[1]), 3)
        late = house_of("open a { n : num 0 .. 2 ; } add b from a { m : num 0 .. 2 ; step n to m by same ; } "
                        "add c from b { k : num 0 .. 3 ; step m to k by clip ; } ")
        self.assertEqual(claimed(late, 2, ("most", "c:k", 2)), ("breaks", ((2, 2, (3,)),)))

    def test_several_versions_and_strands(self):
        self.assertEqual(claimed(PAIR, 1, ("same", "a:o", "b:o"))[0], "holds")
        self.assertEqual(claimed(PAIR, 1, ("or", ("has", "b:o"), ("is", "a:n", 0))), ("breaks", ((0, 0, (1, ())),)))
        self.assertEqual(claimed(PAIR, 0, ("and", ("most", "a:h.s", 1), ("most", "a:n", 1))), ("breaks", ((0, 0, (0, 2)),)))
        self.assertEqual(claimed(PAIR, 3, ("or", ("same", "b:m", "b:m"), ("has", "b:o")))[0], "holds")
        self.assertEqual(claimed(PAIR, 3, ("or", ("is", "c:m", 0), ("or", ("is", "b:m", 1), ("has", "b:o"))))[0], "holds")
        self.assertEqual(claimed(PAIR, 3, ("or", ("most", "c:m", 1), ("has", "b:o"))), ("breaks", ((3, 2, (2,)),)))
        self.assertEqual(claimed(PAIR, 3, ("or", ("most", "c:m", 1), ("not", ("has", "b:o")))),
                         ("breaks", ((0, 0, (0, (0,))), (3, 2, (2,)))))
        self.assertEqual(claimed(PAIR, 3, ("same", "b:m", "c:m")), ("breaks", ((3, 2, (2,)),)))
        # Two strands: only what the claim is about stands in its paper.
        told = claimed(PAIR, 1, ("or", ("same", "a:n", "b:m"), ("has", "a:o")))
        self.assertEqual(told[1][0], tuple(((n, o),) for n in (0, 1) for o in ((), (0,), (1,))))
        self.assertEqual(told[1][1], tuple(((n, o), (n, o)) for n in (0, 1) for o in ((), (0,), (1,))))

    def test_nothing_is_reached(self):
        house = house_of("open a { n : num 0 .. 1 ; rule n = 0 ; rule n = 1 ; }")
        self.assertEqual(claimed(house, 0, ("not", ("same", "a:n", "a:n"))), ("holds", ((),)))
        self.assertIs(judge_claim(house, 0, ("not", ("same", "a:n", "a:n")), ((),)), True)
        self.assertIs(judge_claim(house, 0, ("not", ("same", "a:n", "a:n")), ((((0,),),),)), False)
        self.assertIs(judge_claim(house, 0, ("is", "a:n", 0), ((((0,),),),)), True)

    def test_against_a_search_over_rows(self):
        rng = random.Random(11)
        seen = {}
        for house in some_houses(60, first=30000, rules=(0, 0, 1), least_lets=False):
            for epoch in range(len(house.events)):
                for _ in range(4):
                    formula = some_claim(rng, house, epoch)
                    if formula is None:
                        continue
                    bundle = bundle_about(house, epoch, formula)
                    rows = Search(house, epoch, bundle).least_rows(60)
                    if rows is None:
                        large(self, "bundle", claimed, house, epoch, formula)
                        continue
                    told = claimed(house, epoch, formula)
                    false = [(len(row), row) for parts, row in rows.items() if not is_true(house, bundle, formula, parts)]
                    if false:
                        self.assertEqual(told, ("breaks", min(false)[1]))
                        self.assertIs(is_true(house, bundle, formula, played(house, epoch, bundle, told[1])), False)
                    else:
                        states = tuple(tuple(parts for parts, _ in reached(house, past, then(house, past, bundle)))
                                       for past in range(epoch + 1))
                        self.assertEqual(told, ("holds", states))
                        self.assertEqual(set(states[epoch]), set(rows))
                        self.assertIs(judge_claim(house, epoch, formula, states), True)
                    seen[told[0]] = seen.get(told[0], 0) + 1
                    if false:
                        seen[len(told[1])] = seen.get(len(told[1]), 0) + 1
        self.assertGreater(min(seen["breaks"], seen["holds"]), 100)
        self.assertGreater(seen[2], 5)


def some_claim(rng, house, epoch, depth=3):
    leaves = [(house.names[version] + ":" + path, kind) for version in house.living(epoch) for path, kind in leaves_of(house.forms[version])]
    return some_formula(rng, leaves, depth) if leaves else None


def some_formula(rng, leaves, depth):
    word = rng.choice(("not", "and", "or", "leaf", "leaf")) if depth > 1 else "leaf"
    if word == "not":
        return word, some_formula(rng, leaves, depth - 1)
    if word != "leaf":
        return word, some_formula(rng, leaves, depth - 1), some_formula(rng, leaves, depth - 1)
    path, kind = rng.choice(leaves)
    choices = [("is", path, rng.choice(values_of(kind))), ("same", path, rng.choice([other for other, own in leaves if own == kind]))]
    if kind[0] == "num":
        choices += [("upto", path, rng.choice([other for other, own in leaves if own[0] == "num"]), rng.randint(-1, 1)),
                    ("most", path, rng.randint(0, 2))]
    if kind[0] == "opt":
        choices.append(("has", path))
    return rng.choice(choices)


class Judge(unittest.TestCase):

    CLAIM = ("upto", "b:m", "a:n", 0)

    def test_the_paper_is_taken(self):
        for epoch in (1, 2, 3):
            self.assertIs(judge_claim(LINE, epoch, self.CLAIM, claimed(LINE, epoch, self.CLAIM)[1]), True)

    def test_in_other_order_and_twice(self):
        paper = claimed(LINE, 3, self.CLAIM)[1]
        self.assertIs(judge_claim(LINE, 3, self.CLAIM, tuple(states[::-1] for states in paper)), True)
        self.assertIs(judge_claim(LINE, 3, self.CLAIM, tuple(states + states[:2] for states in paper)), True)

    def test_a_state_is_left_out(self):
        for epoch in (1, 2, 3):
            paper = claimed(LINE, epoch, self.CLAIM)[1]
            for past, states in enumerate(paper):
                for at in range(len(states)):
                    told = paper[:past] + (states[:at] + states[at + 1:],) + paper[past + 1:]
                    self.assertIs(judge_claim(LINE, epoch, self.CLAIM, told), False)

    def test_epochs_too_many_or_too_few(self):
        paper = claimed(LINE, 3, self.CLAIM)[1]
        for bad in ((), paper[:-1], paper[1:], paper + paper[-1:], paper + ((),), ((),) * 4, ((),) * 3):
            self.assertIs(judge_claim(LINE, 3, self.CLAIM, bad), False)
        self.assertIs(judge_claim(LINE, 2, self.CLAIM, paper), False)
        self.assertIs(judge_claim(LINE, 2, self.CLAIM, paper[:3]), True)
        self.assertIs(judge_claim(LINE, 1, self.CLAIM, paper[:2]), True)

    def test_wrong_states(self):
        paper = claimed(LINE, 3, self.CLAIM)[1]
        deep = 0
        for _ in range(25):
            deep = (deep,)
        for epoch in range(4):
            many = LINE.present(epoch)
            for bad in (None, (), ((0,),) * (many - 1), ((0,),) * (many + 1), ((),) * many, ((0, 0),) * many, ((-1,),) * many, (("x",),) * many,
                        (((),),) * many, ((deep,),) * many, ((3,),) + ((0,),) * (many - 1)):
                told = paper[:epoch] + (paper[epoch] + (bad,),) + paper[epoch + 1:]
                self.assertIs(judge_claim(LINE, 3, self.CLAIM, told), False)

    def test_the_claim_has_to_be_true_in_the_last_epoch_alone(self):
        # b puts 2 while it lives; that its part is 2 is no matter of a claim about a.
        states = [tuple(parts for parts, _ in reached(LINE, epoch, then(LINE, epoch, (("n",), ("m",), ("k",))))) for epoch in range(4)]
        for formula in (("most", "a:n", 1), ("same", "a:n", "b:m"), ("not", ("is", "b:m", 0))):
            self.assertEqual(claimed(LINE, 3, formula)[0], "breaks")
            self.assertIs(judge_claim(LINE, 3, formula, tuple(states)), False)
        house = house_of("open a { n : num 0 .. 1 ; } add b from a { m : num 0 .. 1 ; step n to m by same ; }")
        paper = claimed(house, 1, ("same", "a:n", "b:m"))[1]
        self.assertIs(judge_claim(house, 1, ("same", "a:n", "b:m"), paper), True)
        # A state more that is closed but of which the claim is false.
        unlike = paper[:1] + (paper[1] + (((0,), (1,)),),)
        self.assertIs(judge_claim(house, 1, ("same", "a:n", "b:m"), unlike), False)
        self.assertIs(judge_claim(house, 1, ("most", "a:n", 1), unlike), True)
        wide = house_of("open a { n : num 0 .. 2 ; rule n <= 1 ; } add b from a { m : num 0 .. 1 ; step n to m by clip ; }")
        paper = claimed(wide, 1, ("most", "a:n", 1))[1]
        self.assertIs(judge_claim(wide, 1, ("most", "a:n", 1), paper), True)
        self.assertIs(judge_claim(wide, 1, ("most", "a:n", 1), (paper[0] + (((2,),),), paper[1])), False)
        self.assertIs(judge_claim(wide, 1, ("most", "a:n", 1), (paper[0] + (((2,),),), paper[1] + (((2,), (1,)),))), False)
        self.assertIs(judge_claim(wide, 1, ("most", "a:n", 2), (paper[0] + (((2,),),), paper[1] + (((2,), (1,)),))), True)

    def test_forbidden_states_do_not_matter(self):
        house = house_of("open a { n : num 0 .. 2 ; } add b from a { m : num 0 .. 2 ; rule not m = 1 ; step n to m by same ; }")
        told = claimed(house, 1, ("same", "a:n", "b:m"))
        self.assertEqual(told[0], "holds")
        self.assertIn(((1,), (1,)), told[1][1])
        self.assertIs(judge_claim(house, 1, ("same", "a:n", "b:m"), told[1]), True)

    def test_an_early_claim_of_a_true_formula(self):
        """Epochs ahead of the last one are not asked whether the claim is true; their versions may lack its leaves."""
        house = house_of("open a { e : rec { } ; } add b from a { m : num 0 .. 1 ; step none to m by apart [ ] 0 ; } "
                         "add c from b { m : num 0 .. 1 ; step m to m by same ; } retire b ;")
        told = claimed(house, 3, ("most", "c:m", 1))
        last = (((), (0,), (0,)), ((), (1,), (1,)))
        self.assertEqual(told, ("holds", ((((),),), (((), (0,)), ((), (1,))), last, last)))
        self.assertIs(judge_claim(house, 3, ("most", "c:m", 1), told[1]), True)
        self.assertIs(judge_claim(house, 3, ("most", "c:m", 1), ((),) + told[1][1:]), False)

    def test_against_the_plainest_judge(self):
        rng = random.Random(12)
        seen = {True: 0, False: 0}
        for house in some_houses(60, first=31000, events=4, rules=(0, 0, 1)):
            epoch = rng.randrange(len(house.events))
            formula = some_claim(rng, house, epoch)
            if formula is None:
                continue
            bundle = bundle_about(house, epoch, formula)
            search = Search(house, epoch, bundle)
            if search.least_rows(60) is None:
                continue
            states = tuple(tuple(parts for parts, _ in reached(house, past, then(house, past, bundle))) for past in range(epoch + 1))
            for _ in range(10):
                told = tuple(changed(rng, house, then(house, past, bundle), page) for past, page in enumerate(states))
                own = is_table(search, told, False) and all(is_true(house, bundle, formula, parts) for parts in told[-1])
                self.assertIs(judge_claim(house, epoch, formula, told), own)
                seen[own] += 1
        self.assertGreater(min(seen.values()), 60)


def changed(rng, house, bundle, states):
    states = list(states)
    if rng.random() < 0.2:
        everything = every(house, bundle)
        states += rng.sample(everything, min(len(everything), rng.choice((1, 3, 101))))
    if rng.random() < 0.1 and states:
        states.remove(rng.choice(states))
    return tuple(rng.sample(states, len(states)))


class Large(unittest.TestCase):

    def test_60_and_61_states(self):
        for top, fits in ((59, True), (60, False)):
            house = house_of("open a { n : num 0 .. %d ; }" % top)
            paper = (tuple(((n,),) for n in range(top + 1)),)
            if fits:
                self.assertEqual(claimed(house, 0, ("most", "a:n", top)), ("holds", paper))
                self.assertEqual(claimed(house, 0, ("most", "a:n", 7)), ("breaks", ((0, 0, (8,)),)))
            else:
                large(self, "bundle", claimed, house, 0, ("most", "a:n", top))
                large(self, "bundle", claimed, house, 0, ("most", "a:n", 7))
            # The judge does not mind.
            self.assertIs(judge_claim(house, 0, ("most", "a:n", top), paper), True)
            self.assertIs(judge_claim(house, 0, ("most", "a:n", 7), paper), False)
            self.assertIs(judge_claim(house, 0, ("most", "a:n", top), (paper[0][1:],)), False)

    def test_400_and_401_parts(self):
        fits = house_of("open a { p : num 1 .. 20 ; q : num 1 .. 20 ; rule p = 3 ; rule q = 3 ; }")
        self.assertEqual(claimed(fits, 0, ("same", "a:p", "a:q")), ("holds", ((((3, 3),),),)))
        self.assertIs(judge_claim(fits, 0, ("same", "a:p", "a:q"), ((((3, 3),),),)), True)
        house = house_of("open a { p : num 1 .. 20 ; q : num 1 .. 21 ; rule p = 3 ; rule q = 3 ; }")
        self.assertEqual(claimed(house, 0, ("is", "a:p", 3)), ("holds", ((((3,),),),)))
        for paper in (((((3, 3),),),), (), ((),), ((), ()), ((((3,),),),), (((("x", ()),),),)):
            large(self, "part", judge_claim, house, 0, ("upto", "a:p", "a:q", 0), paper)
        large(self, "part", claimed, house, 0, ("upto", "a:p", "a:q", 0))
        wide = house_of("open a { n : num 1 .. 400 ; }")
        self.assertIs(judge_claim(wide, 0, ("most", "a:n", 400), (tuple(((n,),) for n in range(1, 401)),)), True)
        large(self, "bundle", claimed, wide, 0, ("most", "a:n", 400))

    def test_a_retired_version_can_have_too_many(self):
        house = house_of("open a { n : num 0 .. 2 ; } add b from a { n : num -200 .. 200 ; rule n = 1 ; step n to n by clip ; } retire b ;")
        for epoch in (1, 2):
            for paper in ((), ((),), (((),),)):
                large(self, "part", judge_claim, house, epoch, ("most", "a:n", 2), paper)
            large(self, "part", claimed, house, epoch, ("most", "a:n", 2))
        self.assertEqual(claimed(house, 0, ("most", "a:n", 2))[0], "holds")
        self.assertIs(judge_claim(house, 0, ("most", "a:n", 2), ()), False)

    def test_parts_come_before_states(self):
        house = house_of("open a { n : num 0 .. 60 ; } add b from a { m : num 0 .. 400 ; step n to m by clip ; } retire b ;")
        large(self, "bundle", claimed, house, 0, ("most", "a:n", 2))
        large(self, "part", claimed, house, 1, ("most", "a:n", 2))
        large(self, "part", claimed, house, 2, ("most", "a:n", 2))


if __name__ == "__main__":
    unittest.main()
