"""House texts are read: promises [2], [64], [65] and [66]."""

import functools
import random
import unittest

from telltrove.errors import BadText
from telltrove.reading import read_house
from telltrove.tokens import tokens_of

RESERVED = (
    "open add from retire rule step to by none num pick opt row of one rec same rank clip table apart some must "
    "each arms parts or and not has tag long"
).split()

# The grammar of [64] as it stands there, with each repetition as a row that can be empty.
GRAMMAR = {
    "HOUSE": [[], ["EVENT", "HOUSE"]],
    "EVENT": [["open", "NAME", "{", "FIELDS", "RULES", "}"],
              ["add", "NAME", "from", "NAME", "{", "FIELDS", "RULES", "STEPS", "}"], ["retire", "NAME", ";"]],
    "FIELDS": [[], ["FIELD", "FIELDS"]],
    "FIELD": [["NAME", ":", "KIND", ";"]],
    "KIND": [["num", "INT", "..", "INT"], ["pick", "{", "NAME", "NAMES", "}"], ["opt", "KIND"],
             ["row", "INT", "of", "KIND"], ["one", "{", "FIELD", "FIELDS", "}"], ["rec", "{", "FIELDS", "}"]],
    "NAMES": [[], [",", "NAME", "NAMES"]],
    "RULES": [[], ["RULE", "RULES"]],
    "RULE": [["rule", "FORMULA", ";"]],
    "FORMULA": [["ANDED", "ORS"]],
    "ORS": [[], ["or", "ANDED", "ORS"]],
    "ANDED": [["NOTTED", "ANDS"]],
    "ANDS": [[], ["and", "NOTTED", "ANDS"]],
    "NOTTED": [["BOTTOM"], ["not", "NOTTED"]],
    "BOTTOM": [["(", "FORMULA", ")"], ["has", "PATH"], ["PATH", "=", "VALUE"], ["PATH", "<=", "INT"],
               ["PATH", "<=", "PATH", "+", "INT"], ["PATH", "same", "PATH"], ["PATH", "tag", "NAME"],
               ["PATH", "long", "INT"]],
    "PATH": [["NAME", "DOTS"]],
    "DOTS": [[], [".", "NAME", "DOTS"]],
    "STEPS": [[], ["STEP", "STEPS"]],
    "STEP": [["step", "SIDE", "to", "SIDE", "by", "WAY", ";"]],
    "SIDE": [["none"], ["PATH", "PATHS"]],
    "PATHS": [[], [",", "PATH", "PATHS"]],
    "WAY": [["same"], ["rank"], ["clip"], ["table", "VALUE", "VALUE"], ["apart", "VALUE", "VALUE"],
            ["some", "VALUE", "WAY"], ["must", "VALUE", "WAY"], ["opt", "WAY"], ["each", "WAY"],
            ["arms", "{", "ARMS", "}"], ["parts", "{", "PARTS", "}"]],
    "ARMS": [[], ["NAME", "to", "NAME", "by", "WAY", ";", "ARMS"]],
    "PARTS": [[], ["PLACE", "to", "PLACE", "by", "WAY", ";", "PARTS"]],
    "PLACE": [["INT"], ["none"]],
    "VALUE": [["INT"], ["NAME"], ["[", "]"], ["[", "VALUE", "VALUES", "]"]],
    "VALUES": [[], [",", "VALUE", "VALUES"]],
}


def fits_terminal(terminal, token):
    if terminal == "NAME":
        letters = "abcdefghijklmnopqrstuvwxyz"
        return (1 <= len(token) <= 8 and token[0] in letters and all(sign in letters + "0123456789" for sign in token)
                and token not in RESERVED)
    if terminal == "INT":
        digits = token[1:] if token.startswith("-") else token
        return token == "0" or (1 <= len(digits) <= 4 and all(d in "0123456789" for d in digits) and digits[0] != "0")
    return terminal == token


def opened(stacks):
    """All stacks, as tuples with the next symbol last, of which a terminal comes next, and () where a text can end."""
    done, left = set(), list(stacks)
    while left:
        stack = left.pop()
        if not stack or stack[-1] not in GRAMMAR:
            done.add(stack)
        else:
            left.extend(stack[:-1] + tuple(reversed(row)) for row in GRAMMAR[stack[-1]])
    return frozenset(done)


@functools.lru_cache(maxsize=None)
def behind(stacks, token):
    """The stacks that are left when the token has come."""
    return opened([stack[:-1] for stack in stacks if stack and fits_terminal(stack[-1], token)])


def first_bad(tokens):
    """The number that BadText tells of these tokens, None if they are a text: all ways to go on are tried side by side."""
    stacks = opened([("HOUSE",)])
    for at, token in enumerate(tokens):
        stacks = behind(stacks, token)
        if not stacks:
            return at
    return None if () in stacks else len(tokens)


LARGE = """
open first {
  n : num -5 .. 9999; p : pick { x }; q : pick {x, y9, z};
  o : opt num 0 .. 1; r : row 3 of opt row 4 of pick { a, b };
  u : one { a : num 0 .. 0; b : one { c : rec { } ; } ; };
  home : rec { street : num 1 .. 9; in : rec { x : opt rec { y : num 0 .. 1; }; }; };
  rule n = 4; rule n <= -4; rule n <= home.street + -7; rule home . in . x same o; rule has o;
  rule u tag b; rule r long 3; rule o = [ ]; rule o = [[1], x, [[]], -3];
  rule not not n = 1 and ( p = x or not ( q = z ) ) or n <= n + 0 and has home.in.x;
}
add second from first {
  m : num 0 .. 2;
  rule m = 1;
  step n to m by same; step none to m, home.street by rank; step n, p to none by clip;
  step q to m by table [0, 1] [[], [x]]; step a to b by apart 3 x; step a to b by some [1] must -2 opt each same;
  step a to b by arms { a to b by same; b to a by arms { }; };
  step a to b by parts { 0 to none by some 1 clip; none to 12 by parts { }; -3 to 1 by each each rank; };
}
retire first; open x { } add y from z { }
"""
LARGE_EVENTS = (
    ("open", "first", ("form", (
        ("n", ("num", -5, 9999)), ("p", ("pick", ("x",))), ("q", ("pick", ("x", "y9", "z"))),
        ("o", ("opt", ("num", 0, 1))), ("r", ("row", ("opt", ("row", ("pick", ("a", "b")), 4)), 3)),
        ("u", ("one", (("a", ("num", 0, 0)), ("b", ("one", (("c", ("rec", ())),)))))),
        ("home", ("rec", (("street", ("num", 1, 9)),
                          ("in", ("rec", (("x", ("opt", ("rec", (("y", ("num", 0, 1)),)))),)))))),
    ), (
        ("is", "n", 4), ("most", "n", -4), ("upto", "n", "home.street", -7), ("same", "home.in.x", "o"), ("has", "o"),
        ("tag", "u", "b"), ("long", "r", 3), ("is", "o", ()), ("is", "o", ((1,), "x", ((),), -3)),
        ("or", ("and", ("not", ("not", ("is", "n", 1))), ("or", ("is", "p", "x"), ("not", ("is", "q", "z")))),
         ("and", ("upto", "n", "n", 0), ("has", "home.in.x"))),
    ))),
    ("add", "second", "first", ("form", (("m", ("num", 0, 2)),), (("is", "m", 1),)), (
        (("n",), ("m",), ("same",)), ((), ("m", "home.street"), ("rank",)), (("n", "p"), (), ("clip",)),
        (("q",), ("m",), ("table", (0, 1), ((), ("x",)))), (("a",), ("b",), ("apart", 3, "x")),
        (("a",), ("b",), ("some", ("must", ("opt", ("each", ("same",))), -2), (1,))),
        (("a",), ("b",), ("arms", (("a", "b", ("same",)), ("b", "a", ("arms", ()))))),
        (("a",), ("b",), ("parts", ((0, None, ("some", ("clip",), 1)), (None, 12, ("parts", ())),
                                    (-3, 1, ("each", ("each", ("rank",))))))),
    )),
    ("retire", "first"),
    ("open", "x", ("form", (), ())),
    ("add", "y", "z", ("form", (), ()), ()),
)


def rule(text):
    return read_house("open a { rule " + text + " ; }")[0][2][2][0]


def kind(text):
    return read_house("open a { f : " + text + " ; }")[0][2][1][0][1]


def way(text):
    return read_house("add a from b { step none to none by " + text + " ; }")[0][4][0][2]


class Reading(unittest.TestCase):

    def test_no_event(self):
        for text in ("", " ", "\n", " \n "):
            self.assertEqual(read_house(text), ())

    def test_every_row_of_the_grammar(self):
        self.assertEqual(repr(read_house(LARGE)), repr(LARGE_EVENTS))
        self.assertEqual(read_house(" ".join(tokens_of(LARGE))), LARGE_EVENTS)
        self.assertEqual(read_house("\n".join(tokens_of(LARGE))), LARGE_EVENTS)

    def test_kinds(self):
        self.assertEqual(kind("num -1..0"), ("num", -1, 0))
        self.assertEqual(kind("row 3 of num 0..1"), ("row", ("num", 0, 1), 3))
        self.assertEqual(kind("opt opt rec{}"), ("opt", ("opt", ("rec", ()))))
        self.assertEqual(kind("opt row 2 of opt row 1 of pick{a}"),
                         ("opt", ("row", ("opt", ("row", ("pick", ("a",)), 1)), 2)))
        self.assertEqual(kind("row 1 of row 2 of num 0..1"), ("row", ("row", ("num", 0, 1), 2), 1))
        self.assertEqual(kind("one{b:num 0..1;a:rec{a:num 1..0;};}"),
                         ("one", (("b", ("num", 0, 1)), ("a", ("rec", (("a", ("num", 1, 0)),))))))
        self.assertEqual(kind("pick{b,a,b}"), ("pick", ("b", "a", "b")))
        self.assertEqual(kind("row -9999 of num 9999..-9999"), ("row", ("num", 9999, -9999), -9999))
        self.assertEqual(kind("row 0 of num 10..5"), ("row", ("num", 10, 5), 0))

    def test_association_and_looseness(self):
        a, b, c, d = [("has", name) for name in "abcd"]
        told = (
            ("has a or has b or has c", ("or", ("or", a, b), c)),
            ("has a or (has b or has c)", ("or", a, ("or", b, c))),
            ("has a and has b and has c", ("and", ("and", a, b), c)),
            ("has a and (has b and has c)", ("and", a, ("and", b, c))),
            ("has a or has b and has c", ("or", a, ("and", b, c))),
            ("has a and has b or has c", ("or", ("and", a, b), c)),
            ("(has a or has b) and has c", ("and", ("or", a, b), c)),
            ("has a and (has b or has c)", ("and", a, ("or", b, c))),
            ("has a or has b and has c or has d", ("or", ("or", a, ("and", b, c)), d)),
            ("has a and has b or has c and has d", ("or", ("and", a, b), ("and", c, d))),
            ("not has a and has b", ("and", ("not", a), b)),
            ("not has a or has b", ("or", ("not", a), b)),
            ("not (has a and has b)", ("not", ("and", a, b))),
            ("has a and not has b and has c", ("and", ("and", a, ("not", b)), c)),
            ("has a or not has b and has c", ("or", a, ("and", ("not", b), c))),
            ("not not has a", ("not", ("not", a))),
            ("not not not has a and not has b", ("and", ("not", ("not", ("not", a))), ("not", b))),
            ("not (not (has a or has b))", ("not", ("not", ("or", a, b)))),
            ("((has a))", a),
            ("has a or has b or has c or has d", ("or", ("or", ("or", a, b), c), d)),
            ("(has a or has b) or (has c or has d)", ("or", ("or", a, b), ("or", c, d))),
        )
        for text, formula in told:
            self.assertEqual(rule(text), formula, text)

    def test_bottoms(self):
        told = (
            ("p = 4", ("is", "p", 4)), ("p = x", ("is", "p", "x")), ("p = []", ("is", "p", ())),
            ("p = [4]", ("is", "p", (4,))), ("p = [[], 0, a]", ("is", "p", ((), 0, "a"))), ("p.q = 4", ("is", "p.q", 4)),
            ("p <= 4", ("most", "p", 4)), ("p <= -4", ("most", "p", -4)), ("p<=q+4", ("upto", "p", "q", 4)),
            ("p <= q + -4", ("upto", "p", "q", -4)), ("p.a <= q.b.c + 0", ("upto", "p.a", "q.b.c", 0)),
            ("p same q", ("same", "p", "q")), ("p.x same q.y", ("same", "p.x", "q.y")), ("p tag t", ("tag", "p", "t")),
            ("p long 3", ("long", "p", 3)), ("has p . q", ("has", "p.q")), ("p same p", ("same", "p", "p")),
            ("p long -3", ("long", "p", -3)),
        )
        for text, formula in told:
            self.assertEqual(rule(text), formula, text)

    def test_ways(self):
        told = (
            ("same", ("same",)), ("rank", ("rank",)), ("clip", ("clip",)), ("table [] x", ("table", (), "x")),
            ("table 1 -2", ("table", 1, -2)), ("apart [a] [[]]", ("apart", ("a",), ((),))), ("some 3 clip", ("some", ("clip",), 3)),
            ("must [] rank", ("must", ("rank",), ())), ("opt opt same", ("opt", ("opt", ("same",)))),
            ("each some a opt must 1 clip", ("each", ("some", ("opt", ("must", ("clip",), 1)), "a"))),
            ("arms { }", ("arms", ())), ("arms { a to b by opt same ; }", ("arms", (("a", "b", ("opt", ("same",))),))),
            ("parts { }", ("parts", ())), ("parts { none to none by same ; }", ("parts", ((None, None, ("same",)),))),
            ("parts { 0 to 1 by parts { 1 to 0 by rank ; } ; }", ("parts", ((0, 1, ("parts", ((1, 0, ("rank",)),))),))),
            ("some 1 some 2 same", ("some", ("some", ("same",), 2), 1)),
            ("must 1 some 2 same", ("must", ("some", ("same",), 2), 1)),
        )
        for text, meant in told:
            self.assertEqual(way(text), meant, text)

    def test_sides(self):
        text = "add a from b { step p.q , r to none by same ; step none to s . t . u by same ; step none to none by same ; }"
        self.assertEqual(read_house(text)[0][4], ((("p.q", "r"), (), ("same",)), ((), ("s.t.u",), ("same",)), ((), (), ("same",))))

    def test_ints(self):
        for number in (0, 1, 9, 10, 99, 100, 999, 1000, 9999, -1, -9, -10, -999, -9999):
            self.assertEqual(rule("p <= %d" % number), ("most", "p", number))
        for text in ("-0", "00", "01", "10000", "-10000", "-01", "1a", "a1b2c3d4e", "-a", "-", "0x", "123456", "+1"):
            with self.assertRaises(BadText) as caught:
                rule("p <= " + text)
            self.assertEqual(caught.exception.at, 6, text)

    def test_reserved_words_and_other_runs_as_names(self):
        for word in RESERVED + ["A", "aB", "abcdefghi", "1a", "-a", "_", "_b", "0", "-1"]:
            for text, at in (("open %s { }", 1), ("retire %s ;", 1), ("add %s from a { }", 1), ("add a from %s { }", 3),
                             ("open a { f : pick { %s } ; }", 7), ("open a { f : pick { x , %s } ; }", 9),
                             ("open a { f : one { %s : num 0 .. 1 ; } ; }", 7), ("open a { rule p tag %s ; }", 6),
                             ("open a { rule has p . %s ; }", 7), ("open a { rule p same %s ; }", 6),
                             ("add a from b { step x , %s to none by same ; }", 8),
                             ("add a from b { step none to none by arms { %s to x by same ; } ; }", 12),
                             ("add a from b { step none to none by arms { x to %s by same ; } ; }", 14)):
                with self.subTest(text=text % word):
                    with self.assertRaises(BadText) as caught:
                        read_house(text % word)
                    self.assertEqual(caught.exception.at, at)

    def test_names_that_are_nearly_reserved(self):
        for name in ("opens", "op", "is", "most", "upto", "form", "z9", "abcdefgh", "put"):
            self.assertEqual(read_house("open %s { %s : pick { %s } ; rule %s . %s = %s ; }" % ((name,) * 6)),
                             (("open", name, ("form", ((name, ("pick", (name,))),), (("is", name + "." + name, name),))),))

    def test_deep_texts(self):
        self.assertEqual(rule("(" * 20 + "has a" + ")" * 20), ("has", "a"))
        self.assertEqual(rule("not " * 20 + "has a")[0], "not")
        value = rule("a = " + "[" * 20 + "]" * 20)[2]
        for _ in range(19):
            (value,) = value
        self.assertEqual(value, ())
        deep = kind("opt " * 19 + "row 1 of rec { }")
        for _ in range(19):
            word, deep = deep
            self.assertEqual(word, "opt")
        self.assertEqual(deep, ("row", ("rec", ()), 1))
        nested = "arms { a to b by each some 1 " * 8 + "same" + " ; }" * 8
        self.assertEqual(way(nested)[0], "arms")
        many = read_house("open a { " + "".join("rule p = %d ; " % number for number in range(250)) + "}")
        self.assertEqual(many[0][2][2], tuple(("is", "p", number) for number in range(250)))

    def test_long_bad_texts(self):
        ors = " or ".join(["has a"] * 400)
        for text in ("open a { rule " + ors + " or ; }", "open a { rule " + ors.replace(" or ", " and ") + " ) ; }"):
            with self.assertRaises(BadText) as caught:
                read_house(text)
            self.assertEqual(caught.exception.at, tokens_of(text).index(";") if " or ;" in text else tokens_of(text).index(")"))
        for front in ("opt ", "row 1 of "):
            text = "open a { f : " + ("one { f : " + front * 20) * 20
            with self.assertRaises(BadText) as caught:
                read_house(text)
            self.assertEqual(caught.exception.at, len(tokens_of(text)))
        text = "open a { rule " + ("( " + "not " * 20) * 20
        with self.assertRaises(BadText) as caught:
            read_house(text)
        self.assertEqual(caught.exception.at, 4 + 21 * 20)
        text = "add a from b { step none to none by " + ("arms { a to b by " + "each opt some [ 1 ] must 3 " * 5) * 20
        with self.assertRaises(BadText) as caught:
            read_house(text)
        self.assertEqual(caught.exception.at, len(tokens_of(text)))


class BadTexts(unittest.TestCase):

    def judge(self, tokens):
        """The tokens are read, or refused with the number that the grammar tells."""
        told = first_bad(tokens)
        text = " ".join(tokens)
        if told is None:
            self.assertIsInstance(read_house(text), tuple)
            return
        with self.assertRaises(BadText) as caught:
            read_house(text)
        self.assertEqual(caught.exception.at, told, text)

    def test_by_hand(self):
        for text, at in (
                ("open", 1), ("close a ;", 0), ("a", 0), (";", 0), ("{", 0), ("}", 0), ("rule", 0), ("open open", 1),
                ("retire a", 2), ("retire a ; ;", 3), ("retire a b ;", 2), ("retire ; ;", 1), ("retire a ; retire", 4),
                ("open a { n : num 0 2 ; }", 7), ("open a { n : num 0 .. 2 }", 9), ("open a { n : num 0 .. 2 ;", 10),
                ("open a { n num 0 .. 2 ; }", 4), ("open a n : num 0 .. 2 ; }", 2), ("open a { n : nim 0 .. 2 ; }", 5),
                ("open a { n : num 0 .. x ; }", 8), ("open a { n : num x .. 1 ; }", 6), ("open a { n : num 0 . 2 ; }", 7),
                ("open a { n : pick { } ; }", 7), ("open a { n : pick { a , } ; }", 9), ("open a { n : pick { a b } ; }", 8),
                ("open a { n : one { } ; }", 7), ("open a { n : rec { ; } ; }", 7), ("open a { n : row num 0 .. 1 ; }", 6),
                ("open a { n : row 3 num 0 .. 1 ; }", 7), ("open a { n : row 3 of ; }", 8), ("open a { n : opt ; }", 6),
                ("open a { rule ; }", 4), ("open a { rule p ; }", 5), ("open a { rule p < 4 ; }", 5), ("open a { rule p = ; }", 6),
                ("open a { rule p <= q ; }", 7), ("open a { rule p <= q + ; }", 8), ("open a { rule p <= q + r ; }", 8),
                ("open a { rule p <= 4 + 1 ; }", 7), ("open a { rule p <= q - 1 ; }", 7), ("open a { rule p <= q + 1 + 1 ; }", 9),
                ("open a { rule has ; }", 5), ("open a { rule ( has p ; }", 7), ("open a { rule has p ) ; }", 6),
                ("open a { rule ( ) ; }", 5), ("open a { rule has p or ; }", 7), ("open a { rule or has p ; }", 4),
                ("open a { rule not ; }", 5), ("open a { rule has p not has q ; }", 6), ("open a { rule p . = 4 ; }", 6),
                ("open a { rule p .. q = 4 ; }", 5), ("open a { rule p = [ 1 , ] ; }", 9), ("open a { rule p = [ 1 2 ] ; }", 8),
                ("open a { rule p = [ , 1 ] ; }", 7), ("open a { rule p = ] ; }", 6), ("open a { rule p tag 4 ; }", 6),
                ("open a { rule p long x ; }", 6), ("open a { rule has p ; n : num 0 .. 1 ; }", 7),
                ("open a { step n to m by same ; }", 3), ("open a from b { }", 2), ("add a { }", 2), ("add a from b c { }", 4),
                ("add a from b { step n to m by same ; rule has p ; }", 12),
                ("add a from b { step n to m by same ; n : num 0 .. 1 ; }", 12), ("add a from b { step to m by same ; }", 6),
                ("add a from b { step n , to m by same ; }", 8), ("add a from b { step n m by same ; }", 7),
                ("add a from b { step none , n to m by same ; }", 7), ("add a from b { step n to m same ; }", 9),
                ("add a from b { step n to m by ; }", 10), ("add a from b { step n to m by table [ ] ; }", 13),
                ("add a from b { step n to m by some same ; }", 11), ("add a from b { step n to m by opt ; }", 11),
                ("add a from b { step n to m by arms { 1 to b by same ; } ; }", 12),
                ("add a from b { step n to m by arms { none to b by same ; } ; }", 12),
                ("add a from b { step n to m by parts { a to 1 by same ; } ; }", 12),
                ("add a from b { step n to m by parts { 0 , 1 by same ; } ; }", 13),
                ("add a from b { step n to m by parts { 0 to 1 by same } ; }", 17),
                ("add a from b { step n to m by arms { a to b by same ; ; } ; }", 18),
                ("add a from b { step n to m by same clip ; }", 11), ("open a { } }", 4), ("open a { } retire a", 6),
                ("open a { } open b { n : num 0 .. 2 ; } add c from b { rule }", 21), ("open a { } retire a ; retire 3 ;", 8)):
            with self.subTest(text=text):
                with self.assertRaises(BadText) as caught:
                    read_house(text)
                self.assertEqual(caught.exception.at, at)
                self.assertEqual(first_bad(tokens_of(text)), at)

    def test_cut_behind_each_token(self):
        tokens = tokens_of(LARGE)
        complete = 0
        for many in range(len(tokens) + 1):
            told = first_bad(tokens[:many])
            self.assertIn(told, (None, many))
            complete += told is None
            self.judge(tokens[:many])
        self.assertEqual(complete, len(LARGE_EVENTS) + 1)

    def test_one_token_less_or_doubled(self):
        tokens = tokens_of(LARGE)
        for at in range(len(tokens)):
            self.judge(tokens[:at] + tokens[at + 1:])
            self.judge(tokens[:at + 1] + tokens[at:])

    def test_one_token_more_or_exchanged(self):
        tokens = tokens_of(LARGE)
        others = RESERVED + list("{}[]():;,.=+<_-") + ["..", "<=", "x", "0", "7", "-7", "-0", "00", "10000", "abcdefghi", "Q"]
        chance = random.Random(66)
        for at in range(len(tokens)):
            for other in chance.sample(others, 6):
                self.judge(tokens[:at] + (other,) + tokens[at:])
                self.judge(tokens[:at] + (other,) + tokens[at + 1:])

    def test_two_tokens_exchanged(self):
        tokens = list(tokens_of(LARGE))
        for at in range(len(tokens) - 1):
            swapped = list(tokens)
            swapped[at], swapped[at + 1] = tokens[at + 1], tokens[at]
            self.judge(swapped)

    def test_short_rows_of_any_tokens(self):
        chance = random.Random(64)
        tokens = ["open", "a", "{", "}", "retire", ";", "n", ":", "rec", "rule", "has", "p"]
        for _ in range(3000):
            self.judge([chance.choice(tokens) for _ in range(chance.randrange(1, 6))])


if __name__ == "__main__":
    unittest.main()
