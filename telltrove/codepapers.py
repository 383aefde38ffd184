"""Code papers: they show that codes are enough, and that no fewer would be."""

from telltrove.books import book_in
from telltrove.classes import codes_in
from telltrove.partings import parting_in
from telltrove.rounds import rounds_of
from telltrove.walks import Walks


def code_paper(house, epoch, bundle):
    """The code paper with the classes as codes and the least parting rows."""
    walk = Walks(house).walk(epoch, bundle)
    codes = codes_in(walk)
    book = book_in(walk, codes)
    rounds = rounds_of(book[3], book[4])
    partings = tuple([(c, d, parting_in(book, rounds, c, d)) for c, d in _pairs_below(len(book[3]))])
    return "codes", tuple(zip(walk.states, codes)), book, partings


def _pairs_below(many):
    """All pairs c < d of codes, ascending."""
    return tuple([(c, d) for c in range(many) for d in range(c + 1, many)])


def judge_codes(house, epoch, bundle, paper):
    """Tells whether a code paper is right."""
    walk = Walks(house).walk(epoch, bundle)
    if paper[:1] != ("codes",) or paper[2][:1] != ("book",):
        return False
    _, assigned, book, partings = paper
    if tuple([parts for parts, _ in assigned]) != walk.states:
        return False
    codes = [code for _, code in assigned]
    if sorted(set(codes)) != list(range(len(book[3]))):
        return False
    return _is_book(walk, codes, book) and _are_partings(book, partings)


def _is_book(walk, codes, book):
    """Tells whether a book tells what is true of all states that have the codes."""
    _, deeds, starts, views, moves = book
    # Each code is that of some state, so all starts and moves are compared with codes.
    if deeds != walk.deeds or starts != tuple([codes[after] for after in walk.starts]) or len(moves) != len(views):
        return False
    for code, view, row in zip(codes, walk.views(), walk.moves):
        if views[code] != view or moves[code] != tuple([codes[after] for after in row]):
            return False
    return True


def _are_partings(book, partings):
    """Tells whether there is a row for each pair of codes that parts them."""
    if tuple([(c, d) for c, d, _ in partings]) != _pairs_below(len(book[3])):
        return False
    return all([_is_parting(book, c, d, row) for c, d, row in partings])


def _is_parting(book, c, d, row):
    """Tells whether a row has deeds of a book alone, behind which the views of two codes differ."""
    for deed in row:
        if deed not in book[1]:
            return False
        place = book[1].index(deed)
        c = book[4][c][place]
        d = book[4][d][place]
    return book[3][c] != book[3][d]
