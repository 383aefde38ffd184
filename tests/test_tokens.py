"""Tokens of house texts: promises [2] and [63]."""

import random
import unittest

from telltrove.tokens import tokens_of


class Tokens(unittest.TestCase):

    def judge(self, *pairs):
        for text, told in pairs:
            with self.subTest(text=text):
                tokens = tokens_of(text)
                self.assertEqual(tokens, tuple(told.split(" ")) if told else ())
                self.assertIsInstance(tokens, tuple)

    def test_nothing(self):
        self.judge(("", ""), (" ", ""), ("\n", ""), (" \n \n\n  ", ""))

    def test_runs(self):
        self.judge(("a", "a"), ("open", "open"), ("aB9z", "aB9z"), ("123", "123"), ("9lives", "9lives"), ("007", "007"),
                   ("abcdefghijklmnopqrstuvwxyz", "abcdefghijklmnopqrstuvwxyz"),
                   ("ABCDEFGHIJKLMNOPQRSTUVWXYZ0123456789", "ABCDEFGHIJKLMNOPQRSTUVWXYZ0123456789"),
                   ("a b", "a b"), ("a\nb", "a b"), ("a \n\n b ", "a b"), ("\na", "a"))

    def test_runs_with_a_minus(self):
        self.judge(("-1", "-1"), ("-abc", "-abc"), ("-0", "-0"), ("-Z9", "-Z9"), ("--1", "- -1"), ("- 1", "- 1"),
                   ("-\n1", "- 1"), ("a-b", "a -b"), ("1-2", "1 -2"), ("1--2", "1 - -2"), ("-", "-"), ("a-", "a -"),
                   ("-1-2-3", "-1 -2 -3"), ("---", "- - -"), ("-.", "- ."), ("-..", "- .."), ("x+-3", "x + -3"),
                   ("-a.-b", "-a . -b"), ("-_", "- _"), ("<=-7", "<= -7"), ("..-7", ".. -7"), ("-<=", "- <="))

    def test_signs(self):
        for sign in "{}[]():;,.=<=+":
            self.judge((sign, sign), ("a" + sign + "b", "a " + sign + " b"), (sign + " " + sign, sign + " " + sign))
        self.judge(("..", ".."), ("...", ".. ."), ("....", ".. .."), (". .", ". ."), (".\n.", ". ."), ("<=", "<="),
                   ("<", "<"), ("< =", "< ="), ("<<=", "< <="), ("<==", "<= ="), ("=<", "= <"), ("=<=", "= <="), ("==", "= ="),
                   (">=", "> ="), ("=.", "= ."), (".=", ". ="), ("<.", "< ."), ("0..2", "0 .. 2"), ("0...2", "0 .. . 2"),
                   ("a.b", "a . b"), ("a..b", "a .. b"), ("{}", "{ }"), ("[[]]", "[ [ ] ]"), ("();", "( ) ;"), ("++", "+ +"),
                   ("::", ": :"), (",,", ", ,"), (";;", "; ;"), (",.", ", ."), (".,", ". ,"))

    def test_characters_that_are_no_sign(self):
        for sign in "!\"#$%&'*/>?@\\^_`|~<-":
            self.judge((sign, sign), (sign + sign, sign + " " + sign), ("a" + sign + " b", "a " + sign + " b"),
                       (sign + ";", sign + " ;"))
        self.judge(("a_b", "a _ b"), ("a@1", "a @ 1"), ("x>y", "x > y"), ("\"a\"", "\" a \""))

    def test_blanks_anywhere_or_nowhere(self):
        close = "open a{n:num 0..2;p:pick{x,y};rule not n=1 or p=x;}"
        wide = "open  a {\nn : num 0 .. 2 ; p : pick { x , y } ; rule not n\n= 1 or p = x ;\n}\n"
        told = "open a { n : num 0 .. 2 ; p : pick { x , y } ; rule not n = 1 or p = x ; }"
        self.judge((close, told), (wide, told), (told, told), (told.replace(" ", "\n"), told), (told.replace(" ", " \n "), told))

    def test_tokens_of_joined_tokens(self):
        chance = random.Random(5)
        some = ["a", "B7", "-x", "-", "12", "-34", "..", ".", "<=", "<", "=", "+", "{", "}", "[", "]", "(", ")", ":", ";", ",",
                "!", "~", "_", "open", "99999"]
        for _ in range(300):
            tokens = tuple(chance.choice(some) for _ in range(chance.randrange(12)))
            blanks = [chance.choice((" ", "\n", "  ", " \n")) for _ in tokens]
            text = chance.choice(("", " ", "\n")) + "".join(token + blank for token, blank in zip(tokens, blanks))
            self.assertEqual(tokens_of(text), tokens, text)


if __name__ == "__main__":
    unittest.main()
