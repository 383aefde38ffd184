"""Leaders: they do deals with a store, and make notes of them."""

from telltrove.notes import KEY_NOTE, PAGE_NOTE, noted
from telltrove.pages import PAGE_KEYS, PAGES, paper_digits


class Leader:
    """Does deals with its store; keeps how often each page was told of."""

    def __init__(self, store):
        self.store = store
        self.stamps = [0] * PAGES

    def deal(self, deeds):
        """Does a deal; tells its key notes."""
        self.store.deal(deeds)
        return tuple([self._key_note(key) for key in sorted(set([deed[2] for deed in deeds]))])

    def _key_note(self, key):
        """The next note about a key."""
        page = key // PAGE_KEYS
        self.stamps[page] += 1
        codes = self.store.paper(key)
        told = (0,) if codes is None else (1, *paper_digits(self.store.tables, self.store.epoch, codes))
        return noted(KEY_NOTE, key, self.stamps[page], (self.store.epoch, *told))

    def page_note(self, page):
        """A note about a page as it is."""
        return noted(PAGE_NOTE, page, self.stamps[page], self.store.page_block(page))

    def stamp(self, page):
        """How often keys of a page were told of."""
        return self.stamps[page]
