"""What rows of deeds reach: the states of a bundle, and what each deed makes of each of them."""

from telltrove.bundles import Spreader, bundle_then
from telltrove.errors import TooLarge
from telltrove.letting import ask_small
from telltrove.rows import deeds_of

MOST_STATES = 60


class Walk:
    """The reached states of a bundle in an epoch, and its deeds there; states are told by their places in states."""

    def __init__(self, states, rows, deeds, starts, moves, alive):
        # All reached states, ascending, and the least row of each.
        self.states = states
        self.rows = rows
        # All pairs of a living version and a let part, ascending; starts has what each of them makes of None, and
        # moves has for each state what is behind each of them.
        self.deeds = deeds
        self.starts = starts
        self.moves = moves
        self.alive = alive

    def views(self):
        """For each state the parts of the living versions."""
        return tuple([tuple([parts[version] for version in self.alive]) for parts in self.states])

    def narrowed(self, living):
        """The same with the deeds of some of the living versions alone."""
        places = [place for place, (version, _) in enumerate(self.deeds) if version in living]
        starts = _at_places(self.starts, places)
        moves = tuple([_at_places(row, places) for row in self.moves])
        return Walk(self.states, self.rows, _at_places(self.deeds, places), starts, moves, living)


def _at_places(things, places):
    return tuple([things[place] for place in places])


class Walks:
    """Finds the walks of bundles of one house; remembers what it has found."""

    def __init__(self, house):
        self.house = house
        self.known = {}

    def walk(self, epoch, bundle):
        """The walk of a bundle of an epoch; raises TooLarge."""
        ask_small_bundle(self.house, bundle)
        # A retirement leaves all states as they are, and each deed that stays could be done at once behind the
        # last event that was none; so states and least rows are still the same.
        return self._first_walk(bundle).narrowed(self.house.living(epoch))

    def states_by_epochs(self, epoch, bundle):
        """For each epoch up to this one all reached states of the bundle, ascending."""
        walks = [self.walk(past, bundle_then(self.house, past, bundle)) for past in range(epoch + 1)]
        return tuple([walk.states for walk in walks])

    def _first_walk(self, bundle):
        """The walk of a bundle in the epoch that opened or added its last version."""
        if bundle not in self.known:
            elder = self._first_walk(bundle[:-1]) if len(bundle) > 1 else None
            self.known[bundle] = _walk_on(self.house, bundle, elder)
        return self.known[bundle]


def ask_small_bundle(house, bundle):
    """Raises TooLarge if some version has too many parts in a bundle."""
    for version, paths in enumerate(bundle):
        ask_small(house.forms[version], paths)


def _walk_on(house, bundle, elder):
    """The walk of a bundle in the epoch of its last version, behind the walk ahead of this epoch, or None."""
    spreader = Spreader(house, bundle)
    epoch = [house.present(past) for past in range(len(house.events))].index(len(bundle))
    deeds = deeds_of(house, epoch, bundle)
    firsts = {} if elder is None else {spreader.extended(old): row for old, row in zip(elder.states, elder.rows)}
    starts = [spreader.spread(None, version, part) for _, version, part in deeds]
    rows, behind = _explored(spreader, deeds, starts, firsts)
    states = tuple(sorted(rows))
    places = {reached: place for place, reached in enumerate(states)}
    moves = tuple([tuple([places[after] for after in behind[reached]]) for reached in states])
    pairs = tuple([(version, part) for _, version, part in deeds])
    least = tuple([rows[reached] for reached in states])
    return Walk(states, least, pairs, tuple([places[after] for after in starts]), moves, house.living(epoch))


def _explored(spreader, deeds, starts, firsts):
    """Two dicts by reached states: the least row, and the states behind all deeds over it.

    starts are the states that the deeds make of None, firsts has the states that were there ahead of this epoch
    with their least rows. States are found by the lengths of their rows, so the first row of a state is its least one
    when all rows with fewer deeds are done, and those with as many are looked at in ascending order.
    """
    rows = {}
    behind = {}
    fresh = {}
    for deed, after in zip(deeds, starts):
        fresh.setdefault(after, (deed,))
    many = 1
    longest = max([len(row) for row in firsts.values()], default=0)
    while fresh or many <= longest:
        for reached, row in firsts.items():
            if len(row) == many and reached not in rows:
                fresh[reached] = min(row, fresh.get(reached, row))
        level = sorted([(row, reached) for reached, row in fresh.items()])
        for row, reached in level:
            rows[reached] = row
        fresh = {}
        for row, reached in level:
            behind[reached] = [spreader.spread(reached, version, part) for _, version, part in deeds]
            for deed, after in zip(deeds, behind[reached]):
                if after not in rows and after not in fresh:
                    fresh[after] = (*row, deed)
            if len(rows) + len(fresh) > MOST_STATES:
                raise TooLarge("bundle")
        many += 1
    return rows, behind
