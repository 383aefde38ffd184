"""Indexes: which keys have papers with which codes in one strand."""

from telltrove.deeds import living_version
from telltrove.errors import NoIndex
from telltrove.forms import leaves_of
from telltrove.kinds import is_value
from telltrove.pages import PAGE_KEYS, PAGES
from telltrove.showing import strand_with, values_shown


class Index:
    """Keeps the keys of the pages of a store by their codes in the strand of a leaf."""

    def __init__(self, store, name, path):
        self.store = store
        self.version = store.tables.house.number_of(name)
        self.path = path
        # By pages: the block that was last gone through, and the keys that it has for each code.
        self.gone = [()] * PAGES
        self.keys_by_codes = [{} for _ in range(PAGES)]

    def step(self):
        """Covers the first page that is not covered; tells how many are left."""
        uncovered = self._uncovered()
        if uncovered:
            self._cover(uncovered[0])
        return len(self._uncovered())

    def _cover(self, page):
        """Goes through the first page that is not covered."""
        if self.store.page_block(page)[0] < self.store.epoch:
            # No page of an elder epoch is covered, so this one is the first of them, which a batch takes.
            self.store.batch(1)
        self.keys_by_codes[page] = self._keys_on(page)
        self.gone[page] = self.store.page_block(page)

    def covered(self):
        """The numbers of the covered pages, ascending."""
        return tuple([page for page in range(PAGES) if self._is_covered(page)])

    def found(self, name, path, value):
        """The keys of the papers that have a value at a path for the living version with this name, ascending."""
        tables = self.store.tables
        epoch = self.store.epoch
        version = living_version(tables.house, epoch, name)
        if path not in tables.strands(epoch)[self._number()][version]:
            raise NoIndex(path)
        if not is_value(dict(leaves_of(tables.house.forms[version]))[path], value):
            return ()
        _, shown = values_shown(tables, epoch, version, path)
        keys = []
        for page in range(PAGES):
            keys_by_codes = self.keys_by_codes[page] if self._is_covered(page) else self._keys_on(page)
            for code, own in keys_by_codes.items():
                if shown[code] == value:
                    keys.extend(own)
        return tuple(sorted(keys))

    def _is_covered(self, page):
        block = self.store.page_block(page)
        return block == self.gone[page] and block[0] == self.store.epoch

    def _uncovered(self):
        """The numbers of the pages that are not covered, ascending."""
        return [page for page in range(PAGES) if not self._is_covered(page)]

    def _number(self):
        """The number of the strand of the leaf in the store's epoch."""
        return strand_with(self.store.tables, self.store.epoch, self.version, self.path)

    def _keys_on(self, page):
        """A dict with the keys of a page's papers by their codes in the strand of the leaf."""
        number = self._number()
        keys = {}
        for place, codes in enumerate(self.store.papers_on(page)):
            if codes is not None:
                keys.setdefault(codes[number], []).append(PAGE_KEYS * page + place)
        return keys
