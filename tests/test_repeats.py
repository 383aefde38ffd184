"""Nothing is changed, and the same question is answered the same way behind other questions: promise [2]."""

import copy
import random
import unittest

from telltrove.changes import led_flat, mirrored, related_flats, side_kind
from telltrove.errors import TroveError
from telltrove.formulas import holds, is_formula, paths_of
from telltrove.forms import flat_of, is_form, is_whole, leaves_of, whole_of
from telltrove.hall import Hall
from telltrove.houses import House
from telltrove.kinds import is_kind, is_value, rank_of, size_of, value_at
from telltrove.leading import led, related
from telltrove.letting import groups_of, is_let, least_let, let_many, let_parts, unmet
from telltrove.reading import read_house
from telltrove.spreads import extended, forbidden, in_tune, spread
from telltrove.steady import lost_pair, unsteady
from telltrove.tokens import tokens_of
from telltrove.ways import fits, mirror
from telltrove.writing import write_formula, write_house, write_kind, write_value, write_way

BIT = ("num", 0, 1)
TRIT = ("num", 0, 2)
OPT = ("opt", BIT)
ROW = ("row", OPT, 2)
ARMS = ("one", (("a", BIT), ("b", OPT)))
PAIR = ("rec", (("x", BIT), ("y", OPT)))
KINDS = (BIT, TRIT, OPT, ROW, ARMS, PAIR, ("pick", ("x", "y")), ("num", 1, 0), ("num", 0, 1000), ("opt", ("opt", OPT)))
VALUES = (0, 1, True, False, None, "x", "", (), (0,), (1,), (True,), (False,), ((),), ((1,),), ((True,),), ("a", 1), ("a", True),
          ("b", (1,)), ("b", (True,)), (1, (1,)), (True, (1,)), (1, (True,)), (1, ()), (True, ()))
FORMULAS = (("is", "n", 1), ("is", "n", True), ("is", "o", (1,)), ("is", "o", (True,)), ("has", "o"), ("most", "n", 1), ("most", "o", 1),
            ("not", ("is", "n", 1)), ("and", ("is", "n", 1), ("has", "o")), ("or", ("has", "o"), ("is", "n", 0)))
FORM = ("form", (("n", BIT), ("o", OPT), ("h", PAIR)), (("not", ("is", "n", 0)), ("same", "o", "h.y")))
OTHER = ("form", (("n", BIT), ("o", OPT), ("h", PAIR)), (("is", "n", 0), ("has", "o")))
LARGE = ("form", (("n", ("num", 1, 401)), ("o", OPT)), ())
WHOLES = ((1, (), (0, ())), (True, (), (0, ())), (1, (1,), (0, ())), (1, (True,), (0, ())), (0, (), (1, (0,))), (1, (1,), (1, (1,))))
RIGHT_WHOLES = tuple(whole for whole in WHOLES if "True" not in repr(whole))
WAYS = ((("same",), TRIT, TRIT), (("clip",), BIT, TRIT), (("clip",), TRIT, BIT), (("apart", 0, 1), BIT, TRIT),
        (("apart", 0, True), BIT, TRIT), (("some", ("clip",), 1), BIT, ("opt", TRIT)), (("some", ("clip",), True), BIT, ("opt", TRIT)),
        (("opt", ("clip",)), OPT, ("opt", TRIT)), (("each", ("opt", ("same",))), ROW, ("row", OPT, 1)),
        (("table", (0, 2), (1, 0, 1)), BIT, TRIT), (("table", (0, 2), (1, 0, True)), BIT, TRIT),
        (("arms", (("a", "a", ("same",)), ("b", "b", ("same",)))), ARMS, ARMS), (("parts", ((0, 0, ("same",)), (1, 1, ("same",)))), PAIR, PAIR))
TEXTS = ("", "open a { n : num 0 .. 2 ; rule not n = 1 ; } retire a ;", "open a { n : num 0 2 ; }", "open", "retire a ;", "a..b<=-1")
CHANGE = ((("n",), ("n",), ("same",)), (("o", "h.y"), ("h.y", "o"), ("same",)), (("h.x",), ("h.x",), ("same",)))
HOUSE = House(read_house(
    "open a { n : num 0 .. 2 ; } add b from a { m : num 0 .. 1 ; rule not m = 1 ; step n to m by clip ; } "
    "add c from a { k : num 0 .. 4 ; step n to k by clip ; } retire b ;"))
ATTRIBUTES = ("events", "names", "parents", "forms", "changes")
STATES = (((2,), (1,), (4,)), ((1,), (1,), (1,)), ((0,), (0,), (0,)), ((2,), (0,), (3,)))


def questions():
    """Many questions, each a function and its arguments."""
    asked = []
    for kind in KINDS:
        asked.append((is_kind, kind))
        asked.append((write_kind, kind))
        asked.extend((is_value, kind, value) for value in VALUES)
        if is_kind(kind):
            asked.append((size_of, kind))
            asked.extend((value_at, kind, rank) for rank in range(min(3, size_of(kind))))
            asked.extend((rank_of, kind, value) for value in VALUES if is_value(kind, value))
    leaves = leaves_of(FORM)
    for formula in FORMULAS:
        asked.append((is_formula, leaves, formula))
        asked.append((is_formula, leaves[1:], formula))
        asked.append((paths_of, formula))
        if is_formula(leaves, formula):
            asked.append((write_formula, formula))
            asked.extend((unmet, form, formula) for form in (FORM, OTHER) if is_formula(leaves, formula))
            asked.append((holds, formula, ("n", "o"), (1, ())))
            asked.append((holds, formula, ("o", "n"), ((1,), 1)))
    for form in (FORM, OTHER, LARGE, ("form", (), ())):
        asked.extend((function, form) for function in (is_form, leaves_of, groups_of, least_let, let_many))
    asked.extend((is_whole, FORM, value) for value in WHOLES + VALUES)
    for whole in RIGHT_WHOLES:
        asked.extend(((flat_of, FORM, whole), (whole_of, FORM, flat_of(FORM, whole)), (is_let, FORM, whole), (is_let, OTHER, whole)))
        asked.append((led_flat, FORM, OTHER, CHANGE, flat_of(FORM, whole)))
        asked.append((led_flat, FORM, OTHER, CHANGE, flat_of(FORM, whole), flat_of(FORM, RIGHT_WHOLES[0])))
        asked.append((related_flats, FORM, OTHER, CHANGE, flat_of(FORM, whole), flat_of(FORM, whole)))
    asked.extend((let_parts, form, paths) for form in (FORM, OTHER, LARGE) for paths in (("n",), ()))
    asked.extend(((unmet, LARGE, ("has", "o")), (side_kind, FORM, ("n",)), (side_kind, FORM, ("h.y", "o")), (mirrored, CHANGE)))
    for way, left, right in WAYS:
        asked.extend(((fits, way, left, right), (fits, way, right, left), (mirror, way)))
        if fits(way, left, right):
            asked.append((write_way, way))
            asked.extend(((unsteady, way, left, right), (lost_pair, way, left, right)))
            lefts = [value_at(left, rank) for rank in range(size_of(left))]
            rights = [value_at(right, rank) for rank in range(size_of(right))]
            for a in lefts:
                asked.append((led, way, left, right, a))
                for b in rights:
                    asked.extend(((led, way, left, right, a, b), (related, way, left, right, a, b)))
    asked.extend((write_value, value) for value in (0, (), "x", ((), (1,))))
    for text in TEXTS:
        asked.extend(((tokens_of, text), (read_house, text), (lambda text: House(read_house(text)).names, text)))
    asked.append((write_house, HOUSE.events))
    for state in STATES:
        asked.extend(((in_tune, HOUSE, 2, state), (forbidden, HOUSE, 2, state), (forbidden, HOUSE, 3, state), (extended, HOUSE, 3, state),
                      (extended, HOUSE, 2, state[:2]), (spread, HOUSE, 3, state, 2, (0,)), (spread, HOUSE, 2, state, 1, (1,)),
                      (spread, HOUSE, 1, state[:2], 0, (1,))))
    asked.extend(((spread, HOUSE, 2, None, 2, (4,)), (extended, HOUSE, 1, None)))
    return asked


def answer(question):
    """The answer as a text, in which True is not 1, or the error and its attributes."""
    try:
        return repr(question[0](*question[1:]))
    except TroveError as error:
        return type(error).__name__ + repr(vars(error))


class Repeats(unittest.TestCase):

    def test_the_same_answers_in_any_order(self):
        asked = questions()
        self.assertGreater(len(asked), 600)
        arguments = repr([question[1:] for question in asked if question[1] is not HOUSE])
        first = [answer(question) for question in asked]
        self.assertEqual([answer(question) for question in asked], first)
        self.assertEqual([answer(question) for question in reversed(asked)], first[::-1])
        order = list(range(len(asked)))
        for seed in range(4):
            random.Random(seed).shuffle(order)
            for at in order:
                self.assertEqual(answer(asked[at]), first[at], asked[at])
        self.assertEqual(repr([question[1:] for question in asked if question[1] is not HOUSE]), arguments)

    def test_equal_arguments(self):
        """Arguments that are equal, but other objects."""
        for question in questions():
            again = tuple(part if callable(part) or part is HOUSE else eval(repr(part)) for part in question)
            self.assertEqual(answer(again), answer(question), question)

    def test_only_tuples_numbers_strings_none_and_bools_are_told(self):
        def judge(thing):
            self.assertIn(type(thing), (tuple, int, str, bool, type(None)))
            if isinstance(thing, tuple):
                for inner in thing:
                    judge(inner)

        for question in questions():
            try:
                told = question[0](*question[1:])
            except TroveError:
                continue
            judge(told)
            name = question[0].__name__
            if name.startswith("is_") or name in ("fits", "holds", "related", "related_flats", "in_tune"):
                self.assertIs(type(told), bool)
            elif name not in ("mirror",) and "True" not in repr(question[1:]):
                self.assertNotIn("True", repr(told))
                self.assertNotIn("False", repr(told))

    def test_houses_stay_as_they_are(self):
        house = House(HOUSE.events)
        before = copy.deepcopy([getattr(house, name) for name in ATTRIBUTES])
        for state in STATES:
            in_tune(house, 2, state)
            forbidden(house, 3, state)
            spread(house, 2, state, 0, (1,))
            spread(house, 3, None, 2, (1,))
            extended(house, 2, state[:2])
        hall = Hall(house)
        hall.put("a", 5, (2,))
        for _ in range(3):
            hall.go_on()
        hall.drop("c", 5)
        hall.tried((("put", "a", 1, (1,)),))
        house.living(2)
        house.present(3)
        house.number_of("b")
        self.assertEqual([getattr(house, name) for name in ATTRIBUTES], before)
        self.assertEqual([house.number_of(name) for name in "abc"], [0, 1, 2])
        self.assertEqual([house.living(epoch) for epoch in range(4)], [(0,), (0, 1), (0, 1, 2), (0, 2)])

    def test_errors_leave_no_trace(self):
        for _ in range(3):
            for text in TEXTS:
                try:
                    House(read_house(text))
                except TroveError:
                    pass
            self.assertEqual(House(HOUSE.events).names, ("a", "b", "c"))
            self.assertEqual(read_house("retire a ;"), (("retire", "a"),))


if __name__ == "__main__":
    unittest.main()
