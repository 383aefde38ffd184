"""A cursor that goes through tokens, and tells the first bad one."""

from telltrove.checks import DIGITS, is_base_name
from telltrove.errors import BadText


def is_int_token(token):
    """Tells whether a token is an INT of the grammar."""
    digits = token[1:] if token[:1] == "-" else token
    if token == "0":
        return True
    return 1 <= len(digits) <= 4 and digits[0] != "0" and all(digit in DIGITS for digit in digits)


class Cursor:
    """Stands at one of the tokens, or behind the last one."""

    def __init__(self, tokens):
        self.tokens = tokens
        self.at = 0

    def seen(self):
        """The token here, the empty string behind the last one."""
        if self.at < len(self.tokens):
            return self.tokens[self.at]
        return ""

    def sees_name(self):
        """Tells whether the token here is a NAME."""
        return is_base_name(self.seen())

    def passes(self, word):
        """Tells whether the token here is this word, and goes on if it is."""
        if self.seen() != word:
            return False
        self.at += 1
        return True

    def take(self, word):
        """Goes on behind this word."""
        if not self.passes(word):
            raise BadText(self.at)

    def take_name(self):
        """Goes on behind a NAME, and tells it."""
        if not self.sees_name():
            raise BadText(self.at)
        self.at += 1
        return self.tokens[self.at - 1]

    def take_int(self):
        """Goes on behind an INT, and tells its number."""
        if not is_int_token(self.seen()):
            raise BadText(self.at)
        self.at += 1
        return int(self.tokens[self.at - 1])
