"""The errors of the package; each keeps its arguments as attributes."""


class TroveError(ValueError):
    """Stands above all errors of the package."""


class BadText(TroveError):
    """A text is not one of the grammar; its first bad token has the number at."""

    def __init__(self, at):
        self.at = at


class BadEvent(TroveError):
    """The event with the number at has a fault, for this reason."""

    def __init__(self, at, reason):
        self.at = at
        self.reason = reason


class TooLarge(TroveError):
    """Something, named by its part, is too large to be looked through."""

    def __init__(self, part):
        self.part = part


class Refused(TroveError):
    """A house has another verdict than that it is let."""

    def __init__(self, verdict):
        self.verdict = verdict


class DeedError(TroveError):
    """Stands above the errors with which a deed is refused."""


class NoVersion(DeedError):
    """No version of this name is there."""

    def __init__(self, name):
        self.name = name


class Retired(DeedError):
    """The version of this name is not living any more."""

    def __init__(self, name):
        self.name = name


class BadKey(DeedError):
    """The key is none."""

    def __init__(self, key):
        self.key = key


class BadValue(DeedError):
    """The whole is none of the form of this version, or it is not let."""

    def __init__(self, name):
        self.name = name


class LastEpoch(TroveError):
    """The house has no further event."""


class BadBytes(TroveError):
    """Bytes cannot be read; the first fault is at this place."""

    def __init__(self, at):
        self.at = at


class NoIndex(TroveError):
    """An index cannot answer for this path."""

    def __init__(self, path):
        self.path = path


class Cut(TroveError):
    """A disk has no room for a write."""
