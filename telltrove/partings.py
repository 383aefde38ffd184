"""Parting rows: the least deeds behind which codes show a difference."""

from telltrove.rounds import rounds_of


def parting(book, c, d):
    """The least row of deeds behind which the views of two codes differ, None if both are the same."""
    return parting_in(book, rounds_of(book[3], book[4]), c, d)


def parting_in(book, rounds, c, d):
    """The parting row of two codes of a book with these rounds."""
    if c == d:
        return None
    left = 0
    while rounds[left][c] == rounds[left][d]:
        left += 1
    row = []
    for labels in rounds[:left][::-1]:
        ends = list(zip(book[4][c], book[4][d]))
        place = [labels[here] == labels[there] for here, there in ends].index(False)
        row.append(book[1][place])
        c, d = ends[place]
    return tuple(row)
