"""Tables: all books and recodes of a house."""

from telltrove.books import book_in
from telltrove.classes import codes_in
from telltrove.errors import Refused
from telltrove.partings import parting
from telltrove.parts import joined_in, part_of, part_state
from telltrove.recodes import recode_with
from telltrove.strands import strands_of, strands_within
from telltrove.verdicts import LET, verdict_with
from telltrove.walks import Walks


class Sheet:
    """What tables keep of a strand in an epoch."""

    def __init__(self, strand, walk):
        codes = codes_in(walk)
        self.strand = strand
        self.written = book_in(walk, codes)
        self.numbers = dict(zip(walk.states, codes))
        self.places = {deed: place for place, deed in enumerate(walk.deeds)}


class Tables:
    """Keeps books and recodes of a house that is let, and does with codes what is done to states."""

    def __init__(self, house):
        self.walks = Walks(house)
        told = verdict_with(self.walks)
        if told != LET:
            raise Refused(told)
        self.house = house
        # By epochs, when they are asked for first: the sheets of all strands, and how their codes come of elder ones.
        self.sheets = {}
        self.lifts = {}

    def book(self, epoch, number):
        """The book of a strand."""
        return self._sheets_of(epoch)[number].written

    def strands(self, epoch):
        """The strands of an epoch."""
        return tuple([sheet.strand for sheet in self._sheets_of(epoch)])

    def many(self, epoch):
        """The numbers of codes of the strands."""
        return tuple([len(sheet.written[3]) for sheet in self._sheets_of(epoch)])

    def codes(self, epoch, state):
        """The codes of a whole state."""
        return tuple([sheet.numbers[part_state(self.house, sheet.strand, state)] for sheet in self._sheets_of(epoch)])

    def whole(self, epoch, codes, version):
        """The whole that a living version shows."""
        place = self.house.living(epoch).index(version)
        sheets = self._sheets_of(epoch)
        parts = [sheet.written[3][code][place] for sheet, code in zip(sheets, codes)]
        return joined_in(self.house, self.strands(epoch), version, parts)

    def started(self, epoch, version, whole):
        """The codes behind a put over no paper."""
        return tuple([sheet.written[2][place] for sheet, place in self._deeds_in(epoch, version, whole)])

    def moved(self, epoch, codes, version, whole):
        """The codes behind a put over codes."""
        deeds = self._deeds_in(epoch, version, whole)
        return tuple([sheet.written[4][code][place] for (sheet, place), code in zip(deeds, codes)])

    def lifted(self, low, high, codes):
        """The codes in a later epoch of codes of an epoch."""
        for epoch in range(low + 1, high + 1):
            lifts = self._lifts_to(epoch)
            codes = tuple([recodes[tuple([codes[number] for number in numbers])] for numbers, recodes in lifts])
        return codes

    def parted(self, epoch, codes, others):
        """The number of the first strand with different codes and their parting row, or None."""
        for number, (code, other) in enumerate(zip(codes, others)):
            if code != other:
                return number, parting(self.book(epoch, number), code, other)
        return None

    def _sheets_of(self, epoch):
        if epoch not in self.sheets:
            strands = strands_of(self.house, epoch)
            self.sheets[epoch] = [Sheet(strand, self.walks.walk(epoch, strand)) for strand in strands]
        return self.sheets[epoch]

    def _deeds_in(self, epoch, version, whole):
        """For each strand its sheet and the place of the deed that a whole is there."""
        pairs = []
        for sheet in self._sheets_of(epoch):
            part = part_of(self.house, sheet.strand, version, whole)
            pairs.append((sheet, sheet.places[version, part]))
        return pairs

    def _lifts_to(self, epoch):
        """For each strand of an epoch the numbers of the strands in it of the epoch ahead, and its recode as a dict."""
        if epoch not in self.lifts:
            lifts = []
            for sheet in self._sheets_of(epoch):
                numbers = [number for number, _ in strands_within(self.house, epoch - 1, sheet.strand)]
                lifts.append((numbers, dict(recode_with(self.walks, epoch, sheet.strand))))
            self.lifts[epoch] = lifts
        return self.lifts[epoch]
