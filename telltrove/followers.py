"""Followers: they keep a copy of a leader's store from its notes, however these come."""

from telltrove.deeds import LAST_KEY, ask_key, next_epoch
from telltrove.notes import EPOCH_PLACE, KEY_NOTE, stamp_in
from telltrove.pages import PAGE_KEYS, PAGES, lifted_paper, page_of, paper_told, papers_later


class Follower:
    """Has for each key the newest that it has heard, in its own epoch."""

    def __init__(self, tables):
        self.tables = tables
        self.epoch = 0
        self.papers = [None] * (LAST_KEY + 1)
        self.stamps = [0] * (LAST_KEY + 1)
        # By pages: nothing up to the floor can tell anything new; above it, the stamps of key notes that were heard.
        self.floors = [0] * PAGES
        self.above = [{} for _ in range(PAGES)]
        self.later = []

    def hear(self, note):
        """Takes a note down, or lets it wait for its epoch."""
        if note[EPOCH_PLACE] > self.epoch:
            self.later.append(note)
        elif note[0] == KEY_NOTE:
            self._hear_key(note)
        else:
            self._hear_page(note)

    def _hear_key(self, note):
        key = note[1]
        page = key // PAGE_KEYS
        stamp = stamp_in(note)
        if stamp <= self.floors[page] or stamp in self.above[page]:
            return
        self.above[page][stamp] = True
        if stamp > self.stamps[key]:
            past = note[EPOCH_PLACE]
            is_there = note[EPOCH_PLACE + 1] == 1
            paper = paper_told(self.tables, past, note[EPOCH_PLACE + 2:]) if is_there else None
            self._take(key, stamp, lifted_paper(self.tables, past, self.epoch, paper))
        self._raise_floor(page)

    def _hear_page(self, note):
        page = note[1]
        stamp = stamp_in(note)
        if stamp <= self.floors[page]:
            return
        self.floors[page] = stamp
        for place, paper in enumerate(papers_later(self.tables, self.epoch, note[EPOCH_PLACE:])):
            key = PAGE_KEYS * page + place
            if self.stamps[key] <= stamp:
                self._take(key, stamp, paper)
        self._raise_floor(page)

    def _take(self, key, stamp, paper):
        """Has a paper, codes or None, for a key, as a note with this stamp tells it."""
        self.papers[key] = paper
        self.stamps[key] = stamp

    def _raise_floor(self, page):
        """Raises the floor over all that was heard directly above it; what is not above it needs no trace."""
        while self.floors[page] + 1 in self.above[page]:
            self.floors[page] += 1
        self.above[page] = {stamp: True for stamp in self.above[page] if stamp > self.floors[page]}

    def go_on(self):
        """Goes on to the next epoch, and hears the notes that waited for it."""
        epoch = next_epoch(self.tables.house, self.epoch)
        self.papers = [lifted_paper(self.tables, self.epoch, epoch, paper) for paper in self.papers]
        self.epoch = epoch
        notes = self.later
        self.later = []
        for note in notes:
            self.hear(note)

    def read(self, name, key):
        """The whole that a client of the version with this name would read, or None."""
        version = ask_key(self.tables.house, self.epoch, name, key)
        codes = self.papers[key]
        return None if codes is None else self.tables.whole(self.epoch, codes, version)

    def paper(self, key):
        """The codes of the paper under a key, or None."""
        return self.papers[key]

    def page(self, number):
        """The block of a page."""
        return page_of(self.tables, self.epoch, self.papers[PAGE_KEYS * number:PAGE_KEYS * number + PAGE_KEYS])

    def floor(self, page):
        """The floor of a page."""
        return self.floors[page]

    def tombstones(self):
        """The keys without a paper of which something elder can still come, ascending."""
        keys = [key for key in range(LAST_KEY + 1) if self.papers[key] is None]
        return tuple([key for key in keys if self.stamps[key] > self.floors[key // PAGE_KEYS]])

    def waiting(self):
        """How many notes wait for a later epoch."""
        return len(self.later)
