"""What one version tells of another one: promise [39]."""

import itertools
import random
import unittest

from small import HIDING, LINE, PAIR, Search, house_of, some_houses, strands_by_links, table_houses, union

from telltrove.errors import TooLarge
from telltrove.forms import leaves_of
from telltrove.tells import told_by


def bundle_with(house, epoch, version, paths):
    """The union of the strands that have some of these leaves."""
    strands = strands_by_links(house, epoch)
    return union(house, epoch, [strand for strand in strands if set(paths) & set(strand[version])])


def told_by_rows(house, epoch, version, paths, other, most=60):
    """What is told, by a search over rows of deeds; None if there are too many states."""
    bundle = bundle_with(house, epoch, version, paths)
    rows = Search(house, epoch, bundle).least_rows(most)
    if rows is None:
        return None
    states = sorted(rows)
    values = [tuple(parts[version][bundle[version].index(path)] for path in paths) for parts in states]
    opens = [(s, t) for (s, here), (t, there) in itertools.combinations(zip(states, values), 2)
             if s[other] == t[other] and here != there]
    if opens:
        return ("open", *min(opens))
    return "told", tuple(sorted({(parts[other], value) for parts, value in zip(states, values)}))


class ByHand(unittest.TestCase):

    def test_the_line(self):
        self.assertEqual(told_by(LINE, 1, 1, ("m",), 0), ("told", (((0,), (0,)), ((1,), (1,)), ((2,), (1,)))))
        self.assertEqual(told_by(LINE, 1, 0, ("n",), 1), ("open", ((1,), (1,)), ((2,), (1,))))
        # c can have 2 or 1 where a has 1 or 2.
        self.assertEqual(told_by(LINE, 2, 2, ("k",), 0), ("open", ((1,), (1,), (1,)), ((1,), (1,), (2,))))
        self.assertEqual(told_by(LINE, 2, 1, ("m",), 2), ("told", (((0,), (0,)), ((1,), (1,)), ((2,), (1,)))))

    def test_the_version_itself(self):
        self.assertEqual(told_by(LINE, 1, 0, ("n",), 0), ("told", (((0,), (0,)), ((1,), (1,)), ((2,), (2,)))))
        self.assertEqual(told_by(PAIR, 0, 0, ("h.s", "n"), 0)[1][:3],
                         (((0, "x"), ("x", 0)), ((0, "y"), ("y", 0)), ((1, "x"), ("x", 1))))

    def test_leaves_of_several_strands_in_the_order_of_the_question(self):
        self.assertEqual(told_by(PAIR, 1, 1, ("p", "n"), 0)[1][:3],
                         (((0, ()), ((), 0)), ((0, (0,)), ((0,), 0)), ((0, (1,)), ((1,), 0))))
        self.assertEqual(told_by(PAIR, 1, 1, ("n", "p"), 0)[1][:3],
                         (((0, ()), (0, ())), ((0, (0,)), (0, (0,))), ((0, (1,)), (0, (1,)))))
        # The strand of z has no leaf of a, so a tells nothing of it.
        self.assertEqual(told_by(PAIR, 1, 1, ("z",), 0), ("open", ((), (0,)), ((), (1,))))
        self.assertEqual(told_by(PAIR, 1, 1, ("z", "p"), 0), ("open", (((),), ((), 0)), (((),), ((), 1))))
        self.assertEqual(told_by(PAIR, 1, 1, ("z",), 1), ("told", (((0,), (0,)), ((1,), (1,)))))

    def test_some_leaves_of_a_strand(self):
        """Other leaves of the same strand are part of the question, but not of the answer."""
        house = house_of("open a { n : num 0 .. 1 ; m : num 0 .. 1 ; rule n <= m + 0 ; } "
                         "add b from a { k : num 0 .. 1 ; l : num 0 .. 1 ; rule k <= l + 0 ; step n to k by same ; step m to l by same ; }")
        self.assertEqual(told_by(house, 1, 0, ("m",), 1), ("told", (((0, 0), (0,)), ((0, 1), (1,)), ((1, 1), (1,)))))
        self.assertEqual(told_by(house, 1, 0, ("m", "n", "m"), 1)[1][1], ((0, 1), (1, 0, 1)))

    def test_the_least_pair(self):
        house = house_of("open a { n : num 0 .. 3 ; } "
                         "add b from a { m : num 0 .. 1 ; step n to m by table [ 0 , 1 , 1 , 0 ] [ 0 , 2 ] ; }")
        # 0 and 3 come with 0, 1 and 2 with 1; the least first state counts first.
        self.assertEqual(told_by(house, 1, 0, ("n",), 1), ("open", ((0,), (0,)), ((3,), (0,))))

    def test_versions_that_are_gone(self):
        """a and c are living, b has 0 to 3 between them; what b had still makes states unlike."""
        self.assertEqual(told_by(HIDING, 3, 0, ("n",), 2), told_by_rows(HIDING, 3, 0, ("n",), 2))
        self.assertEqual(told_by(HIDING, 3, 2, ("k",), 0), ("open", ((1,), (1,), (0,)), ((1,), (3,), (1,))))


class Errors(unittest.TestCase):

    def test_too_large(self):
        part = house_of("open a { n : num 1 .. 401 ; m : num 0 .. 1 ; }")
        many = house_of("open a { n : num 0 .. 60 ; m : num 0 .. 1 ; }")
        both = house_of("open a { n : num 0 .. 20 ; m : num 0 .. 19 ; }")
        for house, paths, word in ((part, ("n",), "part"), (many, ("n",), "bundle"), (both, ("n", "m"), "part"), (part, ("m", "n"), "part")):
            with self.assertRaises(TooLarge) as caught:
                told_by(house, 0, 0, paths, 0)
            self.assertEqual(caught.exception.part, word)
        for house in (part, many):
            self.assertEqual(told_by(house, 0, 0, ("m",), 0), ("told", (((0,), (0,)), ((1,), (1,)))))


class Compared(unittest.TestCase):

    def test_with_a_search_over_rows(self):
        rng = random.Random(31)
        seen = {"told": 0, "open": 0, "self": 0, "several": 0}
        for house in [LINE, HIDING, PAIR] + some_houses(60, first=5000, rules=(0, 0, 1)) + table_houses(20, first=50, adds=3, retires=2):
            for epoch in range(len(house.events)):
                living = house.living(epoch)
                for _ in range(3):
                    version, other = rng.choice(living), rng.choice(living)
                    leaves = [path for path, _ in leaves_of(house.forms[version])]
                    if not leaves:
                        continue
                    paths = tuple(rng.sample(leaves, min(len(leaves), rng.choice((1, 1, 2, 3)))))
                    own = told_by_rows(house, epoch, version, paths, other)
                    if own is None:
                        continue
                    self.assertEqual(told_by(house, epoch, version, paths, other), own)
                    seen[own[0]] += 1
                    seen["self"] += version == other
                    strands = strands_by_links(house, epoch)
                    seen["several"] += len([1 for strand in strands if set(paths) & set(strand[version])]) > 1
        self.assertGreater(min(seen.values()), 40, seen)


if __name__ == "__main__":
    unittest.main()
