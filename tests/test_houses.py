"""Houses and the faults of their events: promises [2] and [18]."""

import unittest

from telltrove.errors import BadEvent, NoVersion, TroveError
from telltrove.houses import House
from telltrove.reading import read_house

BIT = ("num", 0, 1)
SAME = ("same",)
CLIP = ("clip",)
FORM = ("form", (("n", BIT),), ())
KEEP = ((("n",), ("n",), SAME),)
BAD_FORM = ("form", (), ())
BAD_CHANGE = ()
BAD_WAY = ((("n",), ("n",), ("none",)),)
OPEN = ("open", "a", FORM)
RESERVED = (
    "open add from retire rule step to by none num pick opt row of one rec same rank clip table apart some must "
    "each arms parts or and not has tag long"
).split()


def add(name, parent="a", form=FORM, change=KEEP):
    return ("add", name, parent, form, change)


def retire(name):
    return ("retire", name)


SIX = (OPEN, add("b"), add("c", "b"), add("d"), add("e", "d"), add("f"))


class Faults(unittest.TestCase):

    def fault(self, events, at, reason):
        with self.subTest(events=events):
            with self.assertRaises(BadEvent) as caught:
                House(events)
            self.assertEqual((caught.exception.at, caught.exception.reason), (at, reason))
            self.assertIsInstance(caught.exception, TroveError)

    def last_fault(self, front, event, reason):
        """The row in front is right, and the event behind it has a fault."""
        House(front)
        self.fault(front + (event,), len(front), reason)
        self.fault(front + (event, ("open", "", BAD_FORM)), len(front), reason)

    def test_many(self):
        self.last_fault(SIX, add("g"), "many")
        self.last_fault(SIX + (retire("b"),), add("g"), "many")
        self.last_fault(SIX + tuple(retire(name) for name in "abcde"), add("g", "f"), "many")
        House(SIX[:5] + (retire("b"), add("f")))

    def test_order(self):
        self.last_fault((), add("b"), "order")
        self.last_fault((), retire("a"), "order")
        self.last_fault((OPEN,), ("open", "b", FORM), "order")
        self.last_fault((OPEN, add("b"), retire("a")), ("open", "c", FORM), "order")
        self.last_fault(SIX, ("open", "g", FORM), "order")

    def test_name(self):
        for name in ["", "abcdefghi", "1a", "A", "a_b", "a b", "a.b", "-a", "a\n", "\u00e9"] + RESERVED:
            self.last_fault((), ("open", name, FORM), "name")
            self.last_fault((OPEN,), add(name), "name")
        self.last_fault((OPEN,), add("a"), "name")
        self.last_fault((OPEN, add("b")), add("b"), "name")
        self.last_fault((OPEN, add("b"), retire("a")), add("a", "b"), "name")
        for name in ("b", "", "A", "open", "aa"):
            self.last_fault((OPEN,), retire(name), "name")
        self.last_fault((OPEN, add("b"), retire("a")), retire("c"), "name")

    def test_parent(self):
        for parent in ("c", "b", "", "A", "open"):
            self.last_fault((OPEN,), add("b", parent), "parent")
        self.last_fault((OPEN, add("b"), retire("a")), add("c", "a"), "parent")
        self.last_fault((OPEN, add("b"), add("d", "b"), retire("b")), add("c", "b"), "parent")

    def test_gone(self):
        self.last_fault((OPEN, add("b"), retire("a")), retire("a"), "gone")
        self.last_fault((OPEN, add("b"), add("c"), retire("a"), retire("b")), retire("a"), "gone")

    def test_last(self):
        self.last_fault((OPEN,), retire("a"), "last")
        self.last_fault((OPEN, add("b"), retire("a")), retire("b"), "last")
        self.last_fault(SIX + tuple(retire(name) for name in "fedcb"), retire("a"), "last")

    def test_form(self):
        forms = (("form", (), ()), ("form", (("n", ("num", 1, 0)),), ()), ("form", (("n", BIT), ("n", BIT)), ()),
                 ("form", (("n", BIT),), (("is", "n", 2),)), ("form", (("num", BIT),), ()), ("shape", (("n", BIT),), ()),
                 ("form", tuple(("n%d" % at, BIT) for at in range(9)), ()), ("form", (("n", BIT),), (("is", "n", True),)),
                 ("form", (("n", BIT),), (("is", "n", 0),) * 9))
        for form in forms:
            self.last_fault((), ("open", "a", form), "form")
            self.last_fault((OPEN,), add("b", "a", form), "form")

    def test_change(self):
        two = ("form", (("n", BIT), ("h", ("rec", (("x", BIT), ("y", BIT)))), ("e", ("rec", ()))), ())
        front = (("open", "a", two),)
        apart = ("apart", 0, 0)
        right = ((("n",), ("n",), SAME), (("h.x", "h.y"), ("h.x", "h.y"), SAME))
        House(front + (add("b", "a", two, right),))
        House(front + (add("b", "a", two, right[::-1]),))
        House(front + (add("b", "a", two, ((("h.y", "n", "h.x"), ("h.x", "h.y", "n"), SAME),)),))
        changes = (
            (), right[:1], right[1:], right + right[:1], right + (((), ("n",), ("apart", (), 0)),),
            right + ((("n",), (), ("apart", 0, ())),), right + (((), (), SAME),), (((), (), SAME),) + right,
            ((("m",), ("n",), SAME),) + right[1:], ((("n",), ("m",), SAME),) + right[1:],
            ((("n",), ("n",), SAME), (("h",), ("h",), SAME)), ((("n",), ("n",), SAME), (("h.x", "h.x"), ("h.x", "h.y"), SAME)),
            ((("n",), ("n",), SAME), (("h.x", "h.y"), ("h.y", "h.y"), SAME)), right + ((("e",), ("e",), SAME),),
            right + ((("x",), (), ("apart", 0, ())),), right + (((), ("",), ("apart", (), 0)),),
            ((("n", "h.x"), ("n", "h.x"), SAME), (("h.x", "h.y"), ("h.y",), SAME)),
            ((("n", "n"), ("n",), apart),) + right[1:], ((("n",), ("n", "n"), apart),) + right[1:],
        )
        for change in changes:
            self.last_fault(front, add("b", "a", two, change), "change")

    def test_change_of_many_paths(self):
        for many, told in ((4, None), (5, "change"), (8, "change")):
            form = ("form", tuple(("n%d" % at, BIT) for at in range(many)), ())
            paths = tuple("n%d" % at for at in range(many))
            one = ("form", (("m", BIT),), ())
            forth = add("b", "a", form, ((("m",), paths, ("apart", 0, (0,) * many)),))
            back = add("b", "a", one, ((paths, ("m",), ("apart", (0,) * many, 0)),))
            if told is None:
                House((("open", "a", one), forth))
                House((("open", "a", form), back))
            else:
                self.last_fault((("open", "a", one),), forth, told)
                self.last_fault((("open", "a", form),), back, told)

    def test_way(self):
        for way in (("none",), ("opt", SAME), ("apart", 0, True), ("apart", 0, 2), ("table", (0, 1), (0,)), ("table", 0, 0),
                    ("some", SAME, 0), ("parts", ())):
            self.last_fault((OPEN,), add("b", "a", FORM, ((("n",), ("n",), way),)), "way")
        wide = ("form", (("n", BIT), ("m", ("num", 0, 2))), ())
        front = (("open", "a", wide),)
        self.last_fault(front, add("b", "a", wide, ((("n",), ("m",), SAME), (("m",), ("n",), CLIP))), "way")
        self.last_fault(front, add("b", "a", wide, ((("n",), ("m",), CLIP), (("m",), ("n",), SAME))), "way")
        self.last_fault(front, add("b", "a", wide, ((("n", "m"), ("m", "n"), SAME),)), "way")
        self.last_fault(front, add("b", "a", wide, ((("n", "m"), (), ("apart", (0,), ())), ((), ("n", "m"), ("apart", (), (0, 0))))), "way")
        House(front + (add("b", "a", wide, ((("n",), ("m",), CLIP), (("m",), ("n",), CLIP))),))
        House(front + (add("b", "a", wide, ((("m", "n"), ("m", "n"), SAME),)),))
        self.fault(read_house("open a { n : num 0 .. 1 ; } add b from a { n : num 0 .. 1 ; step n to n by table 3 x ; }"), 1, "way")

    def test_the_first_reason_that_is_due(self):
        self.fault(SIX + (("add", "A", "zz", BAD_FORM, BAD_CHANGE),), 6, "many")
        self.fault((("add", "A", "zz", BAD_FORM, BAD_CHANGE),), 0, "order")
        self.fault((("retire", "A"),), 0, "order")
        self.fault((OPEN, ("open", "a", BAD_FORM)), 1, "order")
        self.fault((("open", "A", BAD_FORM),), 0, "name")
        self.fault((OPEN, ("add", "A", "zz", BAD_FORM, BAD_CHANGE)), 1, "name")
        self.fault((OPEN, ("add", "a", "zz", BAD_FORM, BAD_CHANGE)), 1, "name")
        self.fault((OPEN, ("add", "b", "zz", BAD_FORM, BAD_CHANGE)), 1, "parent")
        self.fault((OPEN, ("add", "b", "b", BAD_FORM, BAD_WAY)), 1, "parent")
        self.fault((OPEN, ("add", "b", "a", BAD_FORM, BAD_CHANGE)), 1, "form")
        self.fault((OPEN, ("add", "b", "a", BAD_FORM, BAD_WAY)), 1, "form")
        self.fault((OPEN, ("add", "b", "a", FORM, BAD_WAY + (((), (), SAME),))), 1, "change")
        self.fault((OPEN, ("add", "b", "a", FORM, BAD_WAY + BAD_WAY)), 1, "change")
        self.fault((OPEN, ("add", "b", "a", FORM, BAD_WAY)), 1, "way")
        self.fault((OPEN, add("b"), retire("a"), retire("a")), 3, "gone")
        self.fault((OPEN, retire("b")), 1, "name")

    def test_the_first_bad_event(self):
        self.fault((OPEN, add("b"), add("b"), retire("c")), 2, "name")
        self.fault((OPEN, retire("a"), add("A")), 1, "last")
        self.fault((("open", "A", FORM), ("open", "b", FORM)), 0, "name")
        self.fault((OPEN, add("b"), retire("b"), retire("b"), retire("a")), 3, "gone")
        self.fault((OPEN, add("b"), add("c", "b", FORM, BAD_WAY), add("d", "zz")), 2, "way")


class Attributes(unittest.TestCase):

    def test_no_event(self):
        house = House(())
        self.assertEqual((house.events, house.names, house.parents, house.forms, house.changes), ((),) * 5)
        with self.assertRaises(NoVersion) as caught:
            house.number_of("a")
        self.assertEqual(caught.exception.name, "a")

    def test_one_event(self):
        house = House((OPEN,))
        self.assertEqual(house.events, (OPEN,))
        self.assertEqual((house.names, house.parents, house.forms, house.changes), (("a",), (None,), (FORM,), ((),)))
        self.assertEqual(house.living(0), (0,))
        self.assertEqual(house.present(0), 1)
        self.assertEqual(house.number_of("a"), 0)

    def test_a_long_row(self):
        forms = [("form", (("n", ("num", 0, top)),), ()) for top in range(1, 7)]
        changes = [((("n",), ("n",), ("apart", 0, top)),) for top in range(1, 7)]
        events = (("open", "m", forms[0]), add("a", "m", forms[1], changes[1]), add("z", "a", forms[2], changes[2]), retire("a"),
                  add("b", "m", forms[3], changes[3]), retire("m"), add("y", "z", forms[4], changes[4]),
                  add("c", "b", forms[5], changes[5]), retire("z"), retire("c"), retire("y"))
        house = House(events)
        self.assertEqual(house.events, events)
        self.assertEqual(house.names, ("m", "a", "z", "b", "y", "c"))
        self.assertEqual(house.parents, (None, 0, 1, 0, 2, 3))
        self.assertEqual(house.forms, tuple(forms))
        self.assertEqual(house.changes, ((),) + tuple(changes[1:]))
        self.assertEqual([house.living(epoch) for epoch in range(11)],
                         [(0,), (0, 1), (0, 1, 2), (0, 2), (0, 2, 3), (2, 3), (2, 3, 4), (2, 3, 4, 5), (3, 4, 5), (3, 4), (3,)])
        self.assertEqual([house.present(epoch) for epoch in range(11)], [1, 2, 3, 3, 4, 4, 5, 6, 6, 6, 6])
        self.assertEqual([house.number_of(name) for name in house.names], [0, 1, 2, 3, 4, 5])
        for name in ("", "n", "A", "mm", "num"):
            with self.assertRaises(NoVersion) as caught:
                house.number_of(name)
            self.assertEqual(caught.exception.name, name)
        for told in (house.living(0), house.events, house.names, house.parents, house.forms, house.changes):
            self.assertIs(type(told), tuple)
        self.assertIs(type(house.present(3)), int)

    def test_read_houses(self):
        house = House(read_house("open a { n : num 0 .. 2 ; } add b from a { m : num 0 .. 1 ; step n to m by clip ; } retire a ;"))
        self.assertEqual(house.changes, ((), ((("n",), ("m",), CLIP),)))
        self.assertEqual(house.living(2), (1,))
        empty = House(read_house("open a { e : rec { } ; } add b from a { e : rec { } ; } add c from b { n : num 0 .. 1 ; "
                                 "step none to n by apart [ ] 1 ; } add d from c { e : rec { } ; step n to none by apart 0 [ ] ; }"))
        self.assertEqual(empty.parents, (None, 0, 1, 2))


if __name__ == "__main__":
    unittest.main()
