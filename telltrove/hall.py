"""The hall: the plain meaning of a house."""

from telltrove.deeds import ask_deed, ask_key, next_epoch
from telltrove.spreads import extended, spread


class Trial:
    """What a with statement holds: behind its block the hall is what it was when the block was entered."""

    def __init__(self, hall):
        self.hall = hall
        self.epoch = 0
        self.papers = {}

    def __enter__(self):
        # A hall never changes a dict of papers that it has, so to keep it is enough.
        self.epoch = self.hall.epoch
        self.papers = self.hall.papers
        return self.hall

    def __exit__(self, kind, value, trace):
        hall = self.hall
        hall.epoch = self.epoch
        hall.papers = self.papers
        return False


class Hall:
    """Runs a house: in papers each key with a paper has its state."""

    def __init__(self, house):
        self.house = house
        self.epoch = 0
        self.papers = {}

    @property
    def state(self):
        """The epoch and the papers, as a tuple."""
        papers = self.papers
        return self.epoch, tuple([(key, papers[key]) for key in sorted(papers)])

    @state.setter
    def state(self, value):
        self.resume(value)

    def resume(self, state):
        """Goes on from a state that a hall of this house had."""
        epoch, papers = state
        self.epoch = epoch
        self.papers = {key: paper for key, paper in papers}

    def put(self, name, key, whole):
        """A client of the version with this name puts a whole under a key."""
        self.deal((("put", name, key, whole),))

    def drop(self, name, key):
        """A client drops what is under a key; tells whether there was a paper."""
        had = self.read(name, key) is not None
        self.deal((("drop", name, key),))
        return had

    def read(self, name, key):
        """The whole that a client of the version with this name reads, or None."""
        version = ask_key(self.house, self.epoch, name, key)
        return self.papers[key][version] if key in self.papers else None

    def deal(self, deeds):
        """Does deeds in order, all or none."""
        papers = dict(self.papers)
        for deed in deeds:
            version = ask_deed(self.house, self.epoch, deed)
            if deed[0] == "put":
                papers[deed[2]] = spread(self.house, self.epoch, papers.get(deed[2]), version, deed[3])
            elif deed[2] in papers:
                del papers[deed[2]]
        self.papers = papers

    def present_keys(self):
        """The keys with papers, ascending."""
        return tuple(sorted(self.papers))

    def go_on(self):
        """Goes on to the next epoch."""
        epoch = next_epoch(self.house, self.epoch)
        self.papers = {key: extended(self.house, epoch, paper) for key, paper in self.papers.items()}
        self.epoch = epoch

    def trial(self):
        """For a with statement: holds the hall, and gives it its state back behind the block."""
        return Trial(self)

    def tried(self, deeds):
        """What the state would be behind a deal; the hall stays as it is."""
        with self.trial() as held:
            held.deal(deeds)
            return held.state
