"""Strands and bundles: promise [23]."""

import itertools
import random
import unittest

from small import LINE, house_of, some_houses, strands_by_links, union

from telltrove.forms import leaves_of
from telltrove.strands import bundle_of, strands_of

# Six leaves in each form; what ties them is told behind.
SIX = "p : num 0 .. 2 ; q : num 0 .. 2 ; r : num 0 .. 2 ; s : num 0 .. 2 ; t : num 0 .. 2 ; u : num 0 .. 2 ; "

CHAIN = house_of(
    "open a { " + SIX + "rule p <= q + 0 ; rule t = 0 or u = 0 ; } "
    "add b from a { x : num 0 .. 2 ; y : num 0 .. 2 ; z : rec { q : num 0 .. 2 ; w : num 0 .. 2 ; } ; "
    "step q , r to z . q by apart [ 0 , 0 ] 0 ; step p to y by same ; step t to z . w by same ; step s to none by apart 0 [ ] ; "
    "step u to none by apart 0 [ ] ; step none to x by apart [ ] 0 ; } "
    "add c from b { n : num 0 .. 2 ; m : num 0 .. 2 ; rule m <= n + 0 ; step x to m by same ; step z . w to n by same ; "
    "step y to none by apart 0 [ ] ; step z . q to none by apart 0 [ ] ; } "
    "retire c ; "
    "add d from a { p : num 0 .. 2 ; step p to p by same ; step q to none by apart 0 [ ] ; step r to none by apart 0 [ ] ; "
    "step s , t , u to none by apart [ 0 , 0 , 0 ] [ ] ; } "
    "retire a ; retire d ;")


class Strands(unittest.TestCase):

    def test_the_line(self):
        self.assertEqual(strands_of(LINE, 0), ((("n",),),))
        self.assertEqual(strands_of(LINE, 1), ((("n",), ("m",)),))
        self.assertEqual(strands_of(LINE, 2), ((("n",), ("m",), ("k",)),))
        self.assertEqual(strands_of(LINE, 3), ((("n",), ("m",), ("k",)),))

    def test_by_steps_alone(self):
        house = house_of(
            "open a { p : num 0 .. 1 ; q : num 0 .. 1 ; r : num 0 .. 1 ; } "
            "add b from a { v : num 0 .. 1 ; w : num 0 .. 1 ; x : num 0 .. 1 ; step r to v by same ; step p to x by same ; "
            "step q to none by apart 0 [ ] ; step none to w by apart [ ] 0 ; } "
            "add c from b { o : num 0 .. 1 ; step v , w to o by apart [ 0 , 0 ] 0 ; step x to none by apart 0 [ ] ; } "
            "add d from a { o : num 0 .. 1 ; n : num 0 .. 1 ; step r , q to none by apart [ 0 , 0 ] [ ] ; "
            "step p to o , n by apart 0 [ 0 , 0 ] ; }")
        self.assertEqual(strands_of(house, 0), ((("p",),), (("q",),), (("r",),)))
        self.assertEqual(strands_of(house, 1), ((("p",), ("x",)), (("q",), ()), (("r",), ("v",)), ((), ("w",))))
        self.assertEqual(strands_of(house, 2), ((("p",), ("x",), ()), (("q",), (), ()), (("r",), ("v", "w"), ("o",))))
        self.assertEqual(strands_of(house, 3), ((("p",), ("x",), (), ("o", "n")), (("q", "r"), ("v", "w"), ("o",), ())))

    def test_by_rules_alone(self):
        house = house_of("open a { " + SIX + "rule s <= p + 0 ; rule not u same r ; rule t = 1 ; rule ( q <= 1 or u = 0 ) and u <= 2 ; }")
        self.assertEqual(strands_of(house, 0), ((("p", "s"),), (("q", "r", "u"),), (("t",),)))

    def test_by_both_in_chains(self):
        first = ((("p", "q"),), (("r",),), (("s",),), (("t", "u"),))
        second = ((("p", "q", "r"), ("y", "z.q")), (("s",), ()), (("t", "u"), ("z.w",)), ((), ("x",)))
        third = ((("p", "q", "r"), ("y", "z.q"), ()), (("s",), (), ()), (("t", "u"), ("x", "z.w"), ("n", "m")))
        last = ((("p", "q", "r"), ("y", "z.q"), (), ("p",)), (("s", "t", "u"), ("x", "z.w"), ("n", "m"), ()))
        for epoch, told in enumerate((first, second, third, third, last, last, last)):
            self.assertEqual(strands_of(CHAIN, epoch), told, epoch)

    def test_retired_versions_still_link(self):
        house = house_of(
            "open a { p : num 0 .. 1 ; q : num 0 .. 1 ; } "
            "add b from a { p : num 0 .. 1 ; q : num 0 .. 1 ; rule p same q ; step p to p by same ; step q to q by same ; } "
            "retire b ; "
            "add c from a { p : num 0 .. 1 ; q : num 0 .. 1 ; step p to p by same ; step q to q by same ; } retire a ;")
        two = ("p", "q")
        self.assertEqual(strands_of(house, 0), ((("p",),), (("q",),)))
        self.assertEqual(strands_of(house, 1), ((two, two),))
        self.assertEqual(strands_of(house, 2), ((two, two),))
        self.assertEqual(strands_of(house, 3), ((two, two, two),))
        self.assertEqual(strands_of(house, 4), ((two, two, two),))

    def test_forms_without_leaves(self):
        house = house_of(
            "open a { e : rec { } ; } add b from a { n : num 0 .. 1 ; e : rec { f : rec { } ; } ; step none to n by apart [ ] 1 ; } "
            "add c from b { e : rec { } ; step n to none by apart 1 [ ] ; } retire b ;")
        self.assertEqual(strands_of(house, 0), ())
        self.assertEqual(strands_of(house, 1), (((), ("n",)),))
        self.assertEqual(strands_of(house, 2), (((), ("n",), ()),))
        self.assertEqual(strands_of(house, 3), (((), ("n",), ()),))

    def test_order_of_the_leaves_and_not_of_the_names(self):
        house = house_of("open a { z : num 0 .. 1 ; y : rec { b : num 0 .. 1 ; a : num 0 .. 1 ; } ; b : num 0 .. 1 ; "
                         "rule b same z ; }")
        self.assertEqual(strands_of(house, 0), ((("z", "b"),), (("y.b",),), (("y.a",),)))

    def test_against_following_links(self):
        many = set()
        for house in some_houses(150, events=6, fields=3, rules=(0, 1)):
            for epoch in range(len(house.events)):
                told = strands_of(house, epoch)
                self.assertEqual(told, strands_by_links(house, epoch))
                many.add(len(told))
        self.assertGreater(len(many), 4)

    def test_strands_never_part(self):
        joined = 0
        for house in some_houses(150, events=6, fields=3):
            for epoch in range(1, len(house.events)):
                laters = [strand[:house.present(epoch - 1)] for strand in strands_of(house, epoch)]
                elders = strands_of(house, epoch - 1)
                joined += sum(any(later) for later in laters) < len(elders)
                for later in laters:
                    self.assertEqual(later, union(house, epoch - 1, [elder for elder in elders if meet(elder, later)]))
                if house.present(epoch) == house.present(epoch - 1):
                    self.assertEqual(strands_of(house, epoch), elders)
        self.assertGreater(joined, 20)


def meet(one, two):
    return any(set(here) & set(there) for here, there in zip(one, two))


class Bundles(unittest.TestCase):

    def test_of_no_node(self):
        for epoch in range(len(LINE.events)):
            self.assertEqual(bundle_of(LINE, epoch, ()), ((),) * LINE.present(epoch))
        self.assertEqual(bundle_of(house_of("open a { e : rec { } ; }"), 0, ()), ((),))

    def test_by_hand(self):
        self.assertEqual(bundle_of(LINE, 2, ((1, "m"),)), (("n",), ("m",), ("k",)))
        for nodes in ((1, "x"), (0, "r")), ((0, "r"), (1, "x")), ((1, "z.q"), (1, "x"), (0, "p")), ((1, "x"), (0, "q"), (1, "x"), (0, "p")):
            self.assertEqual(bundle_of(CHAIN, 1, nodes), (("p", "q", "r"), ("x", "y", "z.q")))
        self.assertEqual(bundle_of(CHAIN, 1, ((1, "x"),)), ((), ("x",)))
        self.assertEqual(bundle_of(CHAIN, 0, ((0, "u"), (0, "s"))), (("s", "t", "u"),))
        self.assertEqual(bundle_of(CHAIN, 0, ((0, "u"), (0, "p"))), (("p", "q", "t", "u"),))
        self.assertEqual(bundle_of(CHAIN, 4, ((2, "m"), (3, "p"))),
                         (("p", "q", "r", "s", "t", "u"), ("x", "y", "z.q", "z.w"), ("n", "m"), ("p",)))

    def test_any_nodes_in_any_order(self):
        rng = random.Random(1)
        for house in some_houses(60, events=5, fields=3):
            for epoch in range(len(house.events)):
                strands = strands_by_links(house, epoch)
                nodes = [(version, path) for version in range(house.present(epoch)) for path, _ in leaves_of(house.forms[version])]
                for many in range(min(4, len(nodes)) + 1):
                    some = tuple(rng.sample(nodes, many))
                    own = union(house, epoch, [strand for strand in strands if any(path in strand[version] for version, path in some)])
                    for order in itertools.permutations(some):
                        self.assertEqual(bundle_of(house, epoch, order), own)
                    self.assertEqual(bundle_of(house, epoch, some + some), own)
                self.assertEqual(bundle_of(house, epoch, tuple(nodes)), union(house, epoch, strands))
                for strand in strands:
                    for version, paths in enumerate(strand):
                        for path in paths:
                            self.assertEqual(bundle_of(house, epoch, ((version, path),)), strand)


if __name__ == "__main__":
    unittest.main()
