"""Pages: papers as numbers in blocks of bytes."""

from telltrove.digits import digits_of, length_for, number_from

PAGES = 6
PAGE_KEYS = 4


def paper_bytes(tables, epoch):
    """In how many bytes each paper of an epoch is written."""
    papers = 1
    for many in tables.many(epoch):
        papers = papers * many
    return length_for(1 + papers)


def page_of(tables, epoch, papers):
    """The block of a page with four papers, codes or None."""
    block = [epoch]
    for paper in papers:
        block.extend(paper_digits(tables, epoch, paper))
    return tuple(block)


def papers_of(tables, block):
    """The epoch and the papers of a page's block."""
    length = paper_bytes(tables, block[0])
    starts = range(1, len(block), length)
    return block[0], tuple([paper_told(tables, block[0], block[start:start + length]) for start in starts])


def papers_later(tables, epoch, block):
    """The papers of a page's block as they are in an epoch, that of the block or a later one."""
    past, papers = papers_of(tables, block)
    return tuple([lifted_paper(tables, past, epoch, paper) for paper in papers])


def lifted_paper(tables, low, high, paper):
    """What a paper of one epoch, codes or None, is in a later one."""
    return None if paper is None else tables.lifted(low, high, paper)


def paper_digits(tables, epoch, paper):
    """The bytes of a paper, codes or None."""
    number = 0
    if paper is not None:
        for many, code in zip(tables.many(epoch), paper):
            number = number * many + code
        number += 1
    return digits_of(number, paper_bytes(tables, epoch))


def paper_told(tables, epoch, digits):
    """The paper with these bytes, codes or None."""
    number = number_from(digits)
    if number == 0:
        return None
    number -= 1
    codes = []
    for many in tables.many(epoch)[::-1]:
        number, code = divmod(number, many)
        codes.append(code)
    return tuple(codes[::-1])
