"""Tags of leaves: promise [41]."""

import unittest

from small import LINE, PAIR, house_of, some_houses, table_houses

from telltrove.forms import leaves_of
from telltrove.houses import House
from telltrove.tags import tags_of


def traced_tags(house):
    """The tags, by tracing each leaf back through steps that rename or move it."""
    origins = []
    for version, form in enumerate(house.forms):
        for path, _ in leaves_of(form):
            origin = (version, path)
            while origin[0]:
                at, own = origin
                moves = [lefts[0] for lefts, rights, way in house.changes[at] if rights == (own,) and len(lefts) == 1 and way == ("same",)]
                if not moves:
                    break
                origin = (house.parents[at], moves[0])
            origins.append((version, origin))
    numbers = {}
    for _, origin in origins:
        numbers.setdefault(origin, len(numbers) + 1)
    return tuple(tuple(numbers[origin] for at, origin in origins if at == version) for version in range(len(house.forms)))


class ByHand(unittest.TestCase):

    def test_the_line(self):
        self.assertEqual(tags_of(LINE), ((1,), (2,), (3,)))
        self.assertEqual(tags_of(PAIR), ((1, 2, 3), (2, 4, 5), (6, 7)))

    def test_the_first_version(self):
        house = house_of("open a { n : num 0 .. 2 ; e : rec { } ; h : rec { s : num 0 .. 1 ; r : rec { t : num 0 .. 1 ; } ; } ; o : opt num 0 .. 1 ; }")
        self.assertEqual(tags_of(house), ((1, 2, 3, 4),))
        self.assertEqual(tags_of(house_of("open a { e : rec { } ; }")), ((),))
        self.assertEqual(tags_of(House(())), ())

    def test_renamed_and_moved(self):
        house = house_of(
            "open a { n : num 0 .. 1 ; h : rec { s : num 0 .. 1 ; t : num 0 .. 1 ; } ; } "
            "add b from a { t : num 0 .. 1 ; x : num 0 .. 1 ; g : rec { n : num 0 .. 1 ; } ; "
            "step h . t to g . n by same ; step n to t by same ; step none to x by apart [ ] 0 ; step h . s to none by apart 0 [ ] ; } "
            "add c from b { z : num 0 .. 1 ; y : num 0 .. 1 ; h : rec { s : num 0 .. 1 ; } ; "
            "step g . n to z by same ; step none to y by apart [ ] 0 ; step t to h . s by same ; step x to none by apart 0 [ ] ; }")
        # s of c is n of a under another tag than s of a had; the new leaf y does not get the tag of x or s back.
        self.assertEqual(tags_of(house), ((1, 2, 3), (1, 4, 3), (3, 5, 1)))

    def test_what_is_led_otherwise_is_new(self):
        for way in ("rank", "clip", "apart 0 0", "table [ 0 , 1 ] [ 0 , 1 ]"):
            house = house_of("open a { n : num 0 .. 1 ; m : num 0 .. 1 ; } add b from a { n : num 0 .. 1 ; m : num 0 .. 1 ; "
                             f"step m to m by same ; step n to n by {way} ; }}")
            self.assertEqual(tags_of(house), ((1, 2), (3, 2)))
        kinds = ("opt num 0 .. 1", "row 2 of num 0 .. 1", "one { x : num 0 .. 1 ; }")
        ways = ("opt same", "each same", "arms { x to x by same ; }")
        for kind, way in zip(kinds, ways):
            house = house_of(f"open a {{ n : {kind} ; }} add b from a {{ n : {kind} ; step n to n by {way} ; }}")
            self.assertEqual(tags_of(house), ((1,), (2,)))
            house = house_of(f"open a {{ n : {kind} ; }} add b from a {{ n : {kind} ; step n to n by same ; }}")
            self.assertEqual(tags_of(house), ((1,), (1,)))

    def test_several_lefts_or_rights_are_new(self):
        house = house_of("open a { n : num 0 .. 1 ; m : num 0 .. 1 ; } add b from a { n : num 0 .. 1 ; m : num 0 .. 1 ; step n , m to n , m by same ; }")
        self.assertEqual(tags_of(house), ((1, 2), (3, 4)))
        # The only right of a step by same, but there is no left.
        house = house_of("open a { e : rec { } ; } add b from a { n : row 1 of num 0 .. 0 ; e : rec { } ; step none to n by apart [ ] [ ] ; }")
        self.assertEqual(tags_of(house), ((), (1,)))

    def test_behind_an_add_from_an_elder_parent(self):
        house = house_of(
            "open a { n : num 0 .. 1 ; } add b from a { n : num 0 .. 1 ; step n to n by rank ; } "
            "add c from a { n : num 0 .. 1 ; m : num 0 .. 1 ; step n to m by same ; step none to n by apart [ ] 0 ; } "
            "add d from b { n : num 0 .. 1 ; m : num 0 .. 1 ; step n to n by same ; step none to m by apart [ ] 0 ; } retire b ; "
            "add e from c { n : num 0 .. 1 ; m : num 0 .. 1 ; o : num 0 .. 1 ; step m to n by same ; step none to m by apart [ ] 0 ; step n to o by same ; }")
        self.assertEqual(tags_of(house), ((1,), (2,), (3, 1), (2, 4), (1, 5, 3)))

    def test_a_tag_never_comes_back(self):
        house = house_of(
            "open a { n : num 0 .. 1 ; e : rec { } ; } add b from a { n : num 0 .. 1 ; step n to none by apart 0 [ ] ; step none to n by apart [ ] 0 ; } "
            "retire a ; add c from b { e : rec { } ; step n to none by apart 0 [ ] ; } retire b ; "
            "add d from c { n : num 0 .. 1 ; step none to n by apart [ ] 0 ; }")
        self.assertEqual(tags_of(house), ((1,), (2,), (), (3,)))


class Compared(unittest.TestCase):

    def test_with_leaves_that_are_traced_back(self):
        kept = 0
        for house in some_houses(400, first=5200, fields=3, events=6) + table_houses(10, first=20):
            own = traced_tags(house)
            self.assertEqual(tags_of(house), own)
            kept += len(set(sum(own, ()))) < len(sum(own, ()))
            for version, tags in enumerate(own):
                elders = set(sum(own[:version], ()))
                self.assertEqual(len(set(tags)), len(tags))
                news = [tag for tag in tags if tag not in elders]
                self.assertEqual(news, list(range(max(elders, default=0) + 1, max(elders, default=0) + 1 + len(news))))
        self.assertGreater(kept, 20)


if __name__ == "__main__":
    unittest.main()
