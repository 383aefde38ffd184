"""Houses: rows of events, and what versions they have."""

from telltrove.changes import side_kind
from telltrove.checks import is_base_name
from telltrove.errors import BadEvent, NoVersion
from telltrove.forms import is_form, leaves_of
from telltrove.ways import fits

MOST_VERSIONS = 6
MOST_PATHS = 4


class House:
    """A house whose events are right."""

    def __init__(self, events):
        self.events = events
        self.names = ()
        self.parents = ()
        self.forms = ()
        self.changes = ()
        # By epochs: the numbers of the living versions, and how many versions are present.
        self.lives = ()
        self.counts = ()
        living = ()
        for at, event in enumerate(events):
            reason = _fault(self, at, event, living)
            if reason != "":
                raise BadEvent(at, reason)
            if event[0] == "retire":
                gone = self.names.index(event[1])
                living = tuple([version for version in living if version != gone])
            else:
                living = (*living, len(self.names))
                self._welcome(event)
            self.lives = (*self.lives, living)
            self.counts = (*self.counts, len(self.names))

    def _welcome(self, event):
        """Notes the version of an event that opens or adds."""
        is_first = event[0] == "open"
        self.parents = (*self.parents, None if is_first else self.names.index(event[2]))
        self.names = (*self.names, event[1])
        self.forms = (*self.forms, event[2] if is_first else event[3])
        self.changes = (*self.changes, () if is_first else event[4])

    def living(self, epoch):
        """The numbers of the versions that are living in an epoch, ascending."""
        return self.lives[epoch]

    def present(self, epoch):
        """How many versions are present in an epoch."""
        return self.counts[epoch]

    def number_of(self, name):
        """The number of the version with this name."""
        if name not in self.names:
            raise NoVersion(name)
        return self.names.index(name)


def _fault(house, at, event, living):
    """The first reason that is due for an event behind those of the house, the empty string if there is none."""
    word = event[0]
    if word == "add" and len(house.names) >= MOST_VERSIONS:
        return "many"
    if (word == "open") != (at == 0):
        return "order"
    names = [house.names[version] for version in living]
    if word == "retire":
        return _retire_fault(house, event[1], names)
    if not is_base_name(event[1]) or event[1] in house.names:
        return "name"
    if word == "open":
        return "" if is_form(event[2]) else "form"
    if event[2] not in names:
        return "parent"
    if not is_form(event[3]):
        return "form"
    return _change_fault(house.forms[house.names.index(event[2])], event[3], event[4])


def _retire_fault(house, name, living_names):
    if name not in house.names:
        return "name"
    if name not in living_names:
        return "gone"
    return "last" if len(living_names) == 1 else ""


def _change_fault(left, right, change):
    if not all([_is_step_told(lefts, rights) for lefts, rights, _ in change]):
        return "change"
    if not _is_each_leaf(left, [path for lefts, _, _ in change for path in lefts]):
        return "change"
    if not _is_each_leaf(right, [path for _, rights, _ in change for path in rights]):
        return "change"
    for lefts, rights, way in change:
        if not fits(way, side_kind(left, lefts), side_kind(right, rights)):
            return "way"
    return ""


def _is_step_told(lefts, rights):
    """Tells whether a step has as many paths as it can have."""
    return max(len(lefts), len(rights)) <= MOST_PATHS and len(lefts) + len(rights) > 0


def _is_each_leaf(form, paths):
    """Tells whether the paths are those of the form's leaves, each once."""
    return sorted(paths) == sorted([path for path, _ in leaves_of(form)])
