"""House texts are written: promises [2], [64] and [65]."""

import random
import unittest

from telltrove.reading import read_house
from telltrove.tokens import tokens_of
from telltrove.writing import write_formula, write_house, write_kind, write_value, write_way

A, B, C, D = [("has", name) for name in "abcd"]
FORMULAS = (
    (("is", "p", 4), "p = 4"), (("is", "p", -4), "p = -4"), (("is", "p", "x"), "p = x"), (("is", "p", ()), "p = [ ]"),
    (("is", "p", (1,)), "p = [ 1 ]"), (("is", "p", ((), 0, "a", ((-3,),))), "p = [ [ ] , 0 , a , [ [ -3 ] ] ]"),
    (("is", "home.in.p", 4), "home . in . p = 4"), (("most", "p", 4), "p <= 4"), (("most", "p", -9999), "p <= -9999"),
    (("upto", "p", "q", 4), "p <= q + 4"), (("upto", "p.a", "q.b.c", -4), "p . a <= q . b . c + -4"),
    (("upto", "p", "q", 0), "p <= q + 0"), (("same", "p", "q"), "p same q"), (("same", "p.x", "q.y"), "p . x same q . y"),
    (("has", "p"), "has p"), (("has", "p.q"), "has p . q"), (("tag", "p", "t"), "p tag t"), (("tag", "p.q", "t"), "p . q tag t"),
    (("long", "p", 3), "p long 3"), (("long", "p.q", -3), "p . q long -3"),
    (("not", A), "not has a"), (("not", ("not", A)), "not not has a"), (("not", ("is", "p", 1)), "not p = 1"),
    (("and", A, B), "has a and has b"), (("or", A, B), "has a or has b"),
    (("or", ("or", A, B), C), "has a or has b or has c"), (("or", A, ("or", B, C)), "has a or ( has b or has c )"),
    (("and", ("and", A, B), C), "has a and has b and has c"), (("and", A, ("and", B, C)), "has a and ( has b and has c )"),
    (("or", ("and", A, B), C), "has a and has b or has c"), (("or", A, ("and", B, C)), "has a or has b and has c"),
    (("and", ("or", A, B), C), "( has a or has b ) and has c"), (("and", A, ("or", B, C)), "has a and ( has b or has c )"),
    (("and", ("or", A, B), ("or", C, D)), "( has a or has b ) and ( has c or has d )"),
    (("or", ("and", A, B), ("and", C, D)), "has a and has b or has c and has d"),
    (("or", ("or", A, B), ("or", C, D)), "has a or has b or ( has c or has d )"),
    (("and", ("and", A, B), ("and", C, D)), "has a and has b and ( has c and has d )"),
    (("not", ("or", A, B)), "not ( has a or has b )"), (("not", ("and", A, B)), "not ( has a and has b )"),
    (("not", ("not", ("or", A, B))), "not not ( has a or has b )"),
    (("or", ("not", A), B), "not has a or has b"), (("and", ("not", A), B), "not has a and has b"),
    (("or", A, ("not", B)), "has a or not has b"), (("and", A, ("not", B)), "has a and not has b"),
    (("and", ("not", ("or", A, B)), ("not", ("and", C, D))), "not ( has a or has b ) and not ( has c and has d )"),
    (("or", A, ("or", B, ("or", C, D))), "has a or ( has b or ( has c or has d ) )"),
    (("and", ("and", A, ("or", B, C)), D), "has a and ( has b or has c ) and has d"),
    (("or", ("or", A, ("and", B, C)), D), "has a or has b and has c or has d"),
    (("or", ("has", "p"), ("or", ("most", "q", -2), ("tag", "r", "x"))), "has p or ( q <= -2 or r tag x )"),
)
BIT = ("num", 0, 1)
KINDS = (
    (("num", -5, 10), "num -5 .. 10"), (("num", 9999, -9999), "num 9999 .. -9999"), (("pick", ("a",)), "pick { a }"),
    (("pick", ("b", "a", "c9")), "pick { b , a , c9 }"), (("opt", BIT), "opt num 0 .. 1"),
    (("opt", ("opt", ("rec", ()))), "opt opt rec { }"), (("row", BIT, 3), "row 3 of num 0 .. 1"),
    (("row", ("row", BIT, 1), 2), "row 2 of row 1 of num 0 .. 1"),
    (("opt", ("row", ("opt", BIT), 4)), "opt row 4 of opt num 0 .. 1"),
    (("one", (("a", BIT),)), "one { a : num 0 .. 1 ; }"),
    (("one", (("b", BIT), ("a", ("pick", ("x", "y"))))), "one { b : num 0 .. 1 ; a : pick { x , y } ; }"),
    (("rec", ()), "rec { }"), (("rec", (("a", ("rec", (("a", BIT),))),)), "rec { a : rec { a : num 0 .. 1 ; } ; }"),
    (("rec", (("z", BIT), ("y", ("opt", BIT)))), "rec { z : num 0 .. 1 ; y : opt num 0 .. 1 ; }"),
)
WAYS = (
    (("same",), "same"), (("rank",), "rank"), (("clip",), "clip"),
    (("table", (1, 0), (1, 0)), "table [ 1 , 0 ] [ 1 , 0 ]"), (("table", (), "x"), "table [ ] x"),
    (("apart", 3, ((), "a")), "apart 3 [ [ ] , a ]"), (("some", ("clip",), 3), "some 3 clip"),
    (("must", ("rank",), ()), "must [ ] rank"), (("opt", ("opt", ("same",))), "opt opt same"),
    (("each", ("some", ("must", ("each", ("clip",)), 1), "a")), "each some a must 1 each clip"),
    (("arms", ()), "arms { }"), (("arms", (("a", "b", ("same",)),)), "arms { a to b by same ; }"),
    (("arms", (("a", "b", ("opt", ("same",))), ("b", "a", ("arms", (("c", "d", ("rank",)),))))),
     "arms { a to b by opt same ; b to a by arms { c to d by rank ; } ; }"),
    (("parts", ()), "parts { }"),
    (("parts", ((0, None, ("apart", 1, ())), (None, 10, ("clip",)), (2, 0, ("parts", ((None, None, ("same",)),))))),
     "parts { 0 to none by apart 1 [ ] ; none to 10 by clip ; 2 to 0 by parts { none to none by same ; } ; }"),
    (("some", ("some", ("same",), 2), 1), "some 1 some 2 same"), (("must", ("some", ("same",), 2), 1), "must 1 some 2 same"),
)
VALUES = (
    (0, "0"), (-1, "-1"), (9999, "9999"), ("a", "a"), ("x9", "x9"), ((), "[ ]"), ((0,), "[ 0 ]"), (((),), "[ [ ] ]"),
    ((1, "a", (), (-2, ("b",))), "[ 1 , a , [ ] , [ -2 , [ b ] ] ]"),
)


def read_formula(text):
    return read_house("open a { rule " + text + " ; }")[0][2][2][0]


def read_kind(text):
    return read_house("open a { f : " + text + " ; }")[0][2][1][0][1]


def read_way(text):
    return read_house("add a from b { step none to none by " + text + " ; }")[0][4][0][2]


def any_formula(chance, depth):
    word = chance.choice(("or", "and", "not")) if depth and chance.random() < 0.8 else ""
    if word == "not":
        return "not", any_formula(chance, depth - 1)
    if word:
        return word, any_formula(chance, depth - 1), any_formula(chance, depth - 1)
    return chance.choice((("has", "a"), ("is", "b.c", ("x",)), ("most", "d", -1), ("upto", "a", "b", 2), ("same", "e", "f"),
                          ("tag", "g", "t"), ("long", "h", 2)))


class Parts(unittest.TestCase):

    def test_kinds(self):
        for kind, text in KINDS:
            self.assertEqual(write_kind(kind), text)
            self.assertEqual(read_kind(text), kind)

    def test_formulas(self):
        for formula, text in FORMULAS:
            self.assertEqual(write_formula(formula), text)
            self.assertEqual(read_formula(text), formula)

    def test_ways(self):
        for way, text in WAYS:
            self.assertEqual(write_way(way), text)
            self.assertEqual(read_way(text), way)

    def test_values(self):
        for value, text in VALUES:
            self.assertEqual(write_value(value), text)
            self.assertEqual(read_formula("p = " + text), ("is", "p", value))

    def test_parentheses_exactly_where_they_are_needed(self):
        chance = random.Random(65)
        seen = 0
        for _ in range(400):
            formula = any_formula(chance, 4)
            tokens = write_formula(formula).split(" ")
            self.assertEqual(read_formula(" ".join(tokens)), formula)
            left = []
            for at, token in enumerate(tokens):
                if token == "(":
                    left.append(at)
                elif token == ")":
                    begin = left.pop()
                    without = tokens[:begin] + tokens[begin + 1:at] + tokens[at + 1:]
                    self.assertNotEqual(read_formula(" ".join(without)), formula, tokens)
                    seen += 1
        self.assertGreater(seen, 300)

    def test_needless_parentheses_and_other_blanks(self):
        for formula, text in FORMULAS:
            self.assertEqual(write_formula(read_formula("( ( " + text + " ) )")), text)
            self.assertEqual(write_formula(read_formula(text.replace(" ", "\n "))), text)
        for given, text in (("(has a and has b) or has c", "has a and has b or has c"),
                            ("(has a or has b) or has c", "has a or has b or has c"),
                            ("not(has a)and(not has b)", "not has a and not has b"),
                            ("not (not (has a))", "not not has a"), ("((p=1))", "p = 1")):
            self.assertEqual(write_formula(read_formula(given)), text)


class Events(unittest.TestCase):

    def test_no_event(self):
        self.assertEqual(write_house(()), "")

    def test_line_feeds(self):
        self.assertEqual(write_house((("retire", "a"),)), "retire a ;\n")
        self.assertEqual(write_house((("open", "a", ("form", (), ())),)), "open a {\n}\n")
        self.assertEqual(write_house((("add", "b", "a", ("form", (), ()), ()),)), "add b from a {\n}\n")
        form = ("form", (("n", ("num", 0, 2)), ("p", ("pick", ("x", "y"))), ("h", ("rec", (("q", BIT),)))),
                (("is", "n", 1), ("or", A, ("or", B, C))))
        self.assertEqual(
            write_house((("open", "a", form), ("retire", "a"))),
            "open a {\nn : num 0 .. 2 ;\np : pick {\nx , y }\n;\nh : rec {\nq : num 0 .. 1 ;\n}\n;\n"
            "rule n = 1 ;\nrule has a or ( has b or has c ) ;\n}\nretire a ;\n")
        change = ((("n", "h.q"), (), ("apart", (0, 1), ())), ((), ("m",), ("same",)),
                  (("p",), ("x", "y"), ("arms", (("a", "b", ("same",)),))))
        self.assertEqual(
            write_house((("add", "b", "a", ("form", (("m", BIT),), (("has", "m"),)), change),)),
            "add b from a {\nm : num 0 .. 1 ;\nrule has m ;\nstep n , h . q to none by apart [ 0 , 1 ] [ ] ;\n"
            "step none to m by same ;\nstep p to x , y by arms {\na to b by same ;\n}\n;\n}\n")

    def test_every_kind_formula_and_way_is_read_back(self):
        fields = tuple(("f%d" % at, kind) for at, (kind, _) in enumerate(KINDS))
        rules = tuple(formula for formula, _ in FORMULAS)
        sides = ((), ("a",), ("a.b", "c"), ("a", "b.c.d", "e", "f"))
        steps = tuple((sides[at % 4], sides[(at // 4 + at) % 4], way) for at, (way, _) in enumerate(WAYS))
        events = (("open", "a", ("form", fields, rules)), ("add", "b", "a", ("form", fields, rules), steps), ("retire", "a"),
                  ("open", "a", ("form", (), rules)), ("add", "b", "a", ("form", fields, ()), ()), ("retire", "zz"))
        text = write_house(events)
        self.assertEqual(repr(read_house(text)), repr(events))
        self.assertEqual(write_house(read_house(text)), text)
        for event in events:
            self.assertEqual(read_house(write_house((event,))), (event,))
        self.assertEqual(text, "".join(write_house((event,)) for event in events))
        for line in text.split("\n")[:-1]:
            self.assertIn(line[-1], "{};")
            self.assertNotIn("  ", line)
            for sign in "{};":
                self.assertNotIn(sign, line[:-1])
        self.assertEqual(text[-1], "\n")
        tokens = tokens_of(text)
        self.assertEqual(" ".join(text.split()), " ".join(tokens))
        self.assertEqual(write_house(read_house("\n".join(tokens))), text)
        self.assertEqual(write_house(read_house(" \n ".join(tokens))), text)


if __name__ == "__main__":
    unittest.main()
