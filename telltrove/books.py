"""Books: what clients can see, told by codes alone."""

from telltrove.classes import codes_in
from telltrove.walks import Walks


def book_of(house, epoch, bundle):
    """The book of a bundle in an epoch."""
    walk = Walks(house).walk(epoch, bundle)
    return book_in(walk, codes_in(walk))


def book_in(walk, codes):
    """The book of a walk whose states have these codes, numbered by their first states."""
    # What is told of a code is the same for all its states.
    firsts = [codes.index(code) for code in range(len(set(codes)))]
    views = walk.views()
    starts = tuple([codes[after] for after in walk.starts])
    moves = tuple([tuple([codes[after] for after in walk.moves[first]]) for first in firsts])
    return "book", walk.deeds, starts, tuple([views[first] for first in firsts]), moves


def code_behind(book, code, deeds):
    """The code behind some deeds over a code."""
    for deed in deeds:
        code = book[4][code][book[1].index(deed)]
    return code
