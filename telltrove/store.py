"""Stores: papers on a disk, kept as codes, in pages of different epochs."""

from telltrove.deeds import ask_deed, ask_key, next_epoch
from telltrove.disk import BLOCKS
from telltrove.journals import finish, replace_blocks, write_fresh
from telltrove.pages import PAGE_KEYS, PAGES, page_of, papers_later

FIRST_PAGE = 1
FIRST_SESSION = 7


class Store:
    """Does on a disk what a hall does; all that it keeps beside the disk is the epoch."""

    def __init__(self, tables, disk):
        self.tables = tables
        self.disk = disk
        if disk.blocks[0] == ():
            _make(tables, disk)
        else:
            finish(disk)
        self.epoch = disk.blocks[0][0]

    def put(self, name, key, whole):
        """A client of the version with this name puts a whole under a key."""
        self.deal((("put", name, key, whole),))

    def drop(self, name, key):
        """A client drops what is under a key; tells whether there was a paper."""
        ask_key(self.tables.house, self.epoch, name, key)
        had = self.paper(key) is not None
        self.deal((("drop", name, key),))
        return had

    def read(self, name, key):
        """The whole that a client of the version with this name reads, or None."""
        version = ask_key(self.tables.house, self.epoch, name, key)
        codes = self.paper(key)
        return None if codes is None else self.tables.whole(self.epoch, codes, version)

    def deal(self, deeds, session=None):
        """Does deeds in order and replaces a session block, all or none."""
        pages = {}
        for deed in deeds:
            version = ask_deed(self.tables.house, self.epoch, deed)
            page, place = divmod(deed[2], PAGE_KEYS)
            papers = pages[page] if page in pages else list(self.papers_on(page))
            papers[place] = self._paper_behind(papers[place], version, deed)
            pages[page] = papers
        pairs = [(FIRST_PAGE + page, page_of(self.tables, self.epoch, papers)) for page, papers in pages.items()]
        if session is not None:
            pairs.append((FIRST_SESSION + session[0], session[1]))
        replace_blocks(self.disk, self.epoch, pairs)

    def _paper_behind(self, codes, version, deed):
        """The paper behind a deed over codes or None."""
        if deed[0] == "drop":
            return None
        if codes is None:
            return self.tables.started(self.epoch, version, deed[3])
        return self.tables.moved(self.epoch, codes, version, deed[3])

    def batch(self, many=1):
        """Recodes so many pages of elder epochs; tells how many are left."""
        elders = [page for page in range(PAGES) if self.page_block(page)[0] < self.epoch]
        for page in elders[:many]:
            self.disk.write(FIRST_PAGE + page, page_of(self.tables, self.epoch, self.papers_on(page)))
        return len(elders[many:])

    def page_block(self, page):
        """The block of a page, of whatever epoch it is."""
        return self.disk.blocks[FIRST_PAGE + page]

    def papers_on(self, page):
        """The four papers of a page in the store's epoch, codes or None."""
        return papers_later(self.tables, self.epoch, self.page_block(page))

    def session(self, client):
        """The session block of a client."""
        return self.disk.blocks[FIRST_SESSION + client]

    def paper(self, key):
        """The codes of the paper under a key in the store's epoch, or None."""
        return self.papers_on(key // PAGE_KEYS)[key % PAGE_KEYS]

    def all_papers(self):
        """Pairs of each key with a paper and its codes in the store's epoch, ascending."""
        told = [paper for page in range(PAGES) for paper in self.papers_on(page)]
        return tuple([(key, paper) for key, paper in enumerate(told) if paper is not None])

    def present_keys(self):
        """The keys with papers, ascending."""
        return tuple([key for key, _ in self.all_papers()])

    def at_rest(self):
        """Tells whether all pages are of the store's epoch."""
        return all([self.page_block(page)[0] == self.epoch for page in range(PAGES)])

    def go_on(self):
        """Goes on to the next epoch; the pages stay as they are."""
        epoch = next_epoch(self.tables.house, self.epoch)
        self.disk.write(0, (epoch, 0))
        self.epoch = epoch


def _make(tables, disk):
    """Makes a new store; a disk on which this was cut begins again, since block 0 comes last."""
    empty = page_of(tables, 0, (None,) * PAGE_KEYS)
    for page in range(PAGES):
        write_fresh(disk, FIRST_PAGE + page, empty)
    for number in range(FIRST_SESSION, BLOCKS):
        write_fresh(disk, number, ())
    disk.write(0, (0, 0))
