"""Papers in bytes: entries of leaves, each under its tag."""

from telltrove.digits import digits_of, length_for, number_from
from telltrove.errors import BadBytes
from telltrove.forms import flat_of, leaves_of, whole_of
from telltrove.kinds import rank_of, size_of, value_at
from telltrove.tags import tags_of


def bytes_of(kind, value):
    """The bytes of a value of a kind."""
    return digits_of(rank_of(kind, value), length_for(size_of(kind)))


def wire_of(house, version, whole, rest=()):
    """The bytes of a whole of a version, with a rest written along."""
    kinds = [kind for _, kind in leaves_of(house.forms[version])]
    flat = flat_of(house.forms[version], whole)
    entries = list(rest)
    for tag, kind, value in zip(tags_of(house)[version], kinds, flat):
        entries.append((tag, bytes_of(kind, value)))
    wire = []
    for tag, data in sorted(entries):
        wire.extend((tag, len(data), *data))
    return tuple(wire)


def read_wire(house, version, data):
    """The whole of a version and the rest that bytes tell."""
    form = house.forms[version]
    tags = tags_of(house)[version]
    kinds = {tag: kind for tag, (_, kind) in zip(tags, leaves_of(form))}
    values = {tag: value_at(kind, 0) for tag, kind in kinds.items()}
    rest = []
    for tag, own in _entries_of(data, kinds):
        if tag in kinds:
            values[tag] = value_at(kinds[tag], number_from(own))
        else:
            rest.append((tag, own))
    return whole_of(form, tuple([values[tag] for tag in tags])), tuple(rest)


def _entries_of(data, kinds):
    """The pairs of a tag and its bytes in data; kinds has the kinds of the tags that are known."""
    entries = []
    at = 0
    past = 0
    while at < len(data):
        tag = data[at]
        own = _own_bytes(data, at, past, kinds.get(tag))
        entries.append((tag, own))
        at += 2 + len(own)
        past = tag
    return entries


def _own_bytes(data, at, past, kind):
    """The bytes of the entry at a place, behind an entry with the tag past; kind is None if the tag is not known."""
    if data[at] <= past:
        raise BadBytes(at)
    if at + 1 == len(data):
        raise BadBytes(len(data))
    if kind is not None and data[at + 1] != length_for(size_of(kind)):
        raise BadBytes(at + 1)
    begin = at + 2
    if begin + data[at + 1] > len(data):
        raise BadBytes(len(data))
    own = data[begin:begin + data[at + 1]]
    if kind is not None and number_from(own) >= size_of(kind):
        raise BadBytes(begin)
    return own
