"""What one version tells of a formula of another one: promise [55]."""

import itertools
import unittest

from kept import WORDS, some_formula, some_rng, words_in
from small import HIDING, LINE, PAIR, Search, house_of, some_houses, table_houses
from test_tells import bundle_with

from telltrove.answers import answered
from telltrove.errors import TooLarge
from telltrove.forms import leaves_of
from telltrove.formulas import holds, paths_of
from telltrove.tells import told_by


def answered_by_rows(house, epoch, version, formula, other, most=60):
    """The answer, by a search over rows of deeds; None if there are too many states."""
    bundle = bundle_with(house, epoch, version, paths_of(formula))
    rows = Search(house, epoch, bundle).least_rows(most)
    if rows is None:
        return None
    truths = {parts: holds(formula, bundle[version], parts[version]) for parts in rows}
    opens = [(s, t) for s, t in itertools.combinations(sorted(truths), 2) if s[other] == t[other] and truths[s] != truths[t]]
    if opens:
        return ("open", *min(opens))
    return "told", tuple(sorted({parts[other] for parts, truth in truths.items() if truth}))


class ByHand(unittest.TestCase):

    def test_the_line(self):
        self.assertEqual(answered(LINE, 1, 1, ("is", "m", 1), 0), ("told", ((1,), (2,))))
        self.assertEqual(answered(LINE, 1, 0, ("most", "n", 0), 1), ("told", ((0,),)))
        self.assertEqual(answered(LINE, 1, 0, ("most", "n", 1), 1), ("open", ((1,), (1,)), ((2,), (1,))))
        self.assertEqual(answered(LINE, 2, 2, ("is", "k", 2), 0), ("open", ((1,), (1,), (1,)), ((1,), (1,), (2,))))

    def test_the_version_itself(self):
        self.assertEqual(answered(LINE, 1, 0, ("most", "n", 1), 0), ("told", ((0,), (1,))))
        self.assertEqual(answered(PAIR, 0, 0, ("and", ("is", "n", 2), ("is", "h.s", "y")), 0), ("told", ((2, "y"),)))

    def test_true_of_none_and_of_all(self):
        self.assertEqual(answered(LINE, 1, 0, ("most", "n", -1), 1), ("told", ()))
        self.assertEqual(answered(LINE, 1, 0, ("most", "n", 2), 1), ("told", ((0,), (1,))))
        self.assertEqual(answered(PAIR, 1, 1, ("same", "z", "z"), 0), ("told", ((),)))

    def test_several_strands(self):
        formula = ("or", ("has", "p"), ("is", "n", 1))
        self.assertEqual(answered(PAIR, 1, 1, formula, 0), ("told", tuple((n, o) for n in range(3) for o in ((), (0,), (1,)) if o or n)))
        self.assertEqual(answered(PAIR, 1, 1, ("and", ("has", "p"), ("is", "z", 1)), 0), ("open", (((0,),), ((0,), 0)), (((0,),), ((0,), 1))))
        # A formula over two leaves that one version has in one leaf.
        self.assertEqual(answered(WORDS, 1, 0, ("and", ("is", "n", 0), ("is", "p", 0)), 1)[0], "open")

    def test_what_told_by_leaves_open_can_be_told(self):
        self.assertEqual(told_by(LINE, 1, 0, ("n",), 1)[0], "open")
        self.assertEqual(answered(LINE, 1, 0, ("not", ("is", "n", 0)), 1), ("told", ((1,),)))

    def test_a_retired_version_between(self):
        # a and c are living; what b had decides what c has.
        self.assertEqual(answered(HIDING, 3, 2, ("is", "k", 1), 0), ("open", ((1,), (1,), (0,)), ((1,), (3,), (1,))))
        self.assertEqual(answered(HIDING, 3, 0, ("is", "n", 1), 2), answered_by_rows(HIDING, 3, 0, ("is", "n", 1), 2))

    def test_the_least_pair(self):
        house = house_of("open a { n : num 0 .. 3 ; } add b from a { m : num 0 .. 1 ; step n to m by table [ 0 , 1 , 1 , 0 ] [ 0 , 2 ] ; }")
        self.assertEqual(answered(house, 1, 0, ("most", "n", 2), 1), ("open", ((0,), (0,)), ((3,), (0,))))
        self.assertEqual(answered(house, 1, 0, ("is", "n", 1), 1), ("open", ((1,), (1,)), ((2,), (1,))))

    def test_too_large(self):
        part = house_of("open a { n : num 1 .. 401 ; m : num 0 .. 1 ; }")
        many = house_of("open a { n : num 0 .. 60 ; m : num 0 .. 1 ; }")
        for house, formula, word in ((part, ("most", "n", 3), "part"), (many, ("most", "n", 3), "bundle"),
                                     (many, ("and", ("most", "m", 0), ("most", "n", 99)), "bundle")):
            with self.assertRaises(TooLarge) as caught:
                answered(house, 0, 0, formula, 0)
            self.assertEqual(caught.exception.part, word)
        self.assertEqual(answered(part, 0, 0, ("most", "m", 0), 0), ("told", ((0,),)))


class Compared(unittest.TestCase):

    def test_with_a_search_over_rows(self):
        rng = some_rng("answers")
        seen = {"told": 0, "open": 0, "self": 0, "several": 0, "some": 0}
        words = set()
        houses = [LINE, HIDING, PAIR] + some_houses(70, first=6400, rules=(0, 0, 1)) + table_houses(20, first=150, adds=3, retires=2)
        for house in houses:
            for epoch in range(len(house.events)):
                living = house.living(epoch)
                for _ in range(3):
                    version, other = rng.choice(living), rng.choice(living)
                    leaves = leaves_of(house.forms[version])
                    if not leaves:
                        continue
                    formula = some_formula(rng, leaves, 3)
                    own = answered_by_rows(house, epoch, version, formula, other)
                    if own is None:
                        continue
                    self.assertEqual(answered(house, epoch, version, formula, other), own)
                    seen[own[0]] += 1
                    seen["self"] += version == other
                    seen["several"] += len(paths_of(formula)) > 1
                    seen["some"] += own[0] == "told" and len(own[1]) > 0 and version != other
                    words.update(words_in(formula))
        self.assertGreater(min(seen.values()), 60, seen)
        self.assertGreater(len(words), 8)


if __name__ == "__main__":
    unittest.main()
