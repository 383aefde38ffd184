"""What becomes of the let wholes of one version when another one reads their bytes without the house."""

from telltrove.bundles import Spreader
from telltrove.forms import leaves_of
from telltrove.kinds import value_at
from telltrove.letting import least_with
from telltrove.parts import let_parts_of
from telltrove.strands import strands_of
from telltrove.tags import tags_by_paths, tags_of


def wire_unlike(house, writer, reader):
    """The least let whole of the writer that is read otherwise than the house tells it, or None."""
    wholes = []
    for strand, reads in _reads_by_strands(house, writer, reader):
        spreader = Spreader(house, strand)
        unlike = [part for part, own in reads if spreader.spread(None, writer, part)[reader] != own]
        wholes.extend(_filled(house, writer, strand, unlike[:1]))
    return min(wholes, default=None)


def wire_unsafe(house, writer, reader):
    """The least let whole of the writer from which a whole is read that is not let, or None."""
    wholes = []
    for strand, reads in _reads_by_strands(house, writer, reader):
        lets = let_parts_of(house, strand, reader)
        unsafe = [part for part, own in reads if own not in lets]
        wholes.extend(_filled(house, writer, strand, unsafe[:1]))
    return min(wholes, default=None)


def wire_lost(house, writer, reader):
    """The least pair of let wholes of the writer from which the same whole is read, or None."""
    pairs = []
    for strand, reads in _reads_by_strands(house, writer, reader):
        twins = _least_twins(reads)
        if twins is not None:
            pairs.append(tuple(_filled(house, writer, strand, twins)))
    return min(pairs, default=None)


def _reads_by_strands(house, writer, reader):
    """Pairs of each strand of the last epoch and, for each let part of the writer there, the part and what is read."""
    last = len(house.events) - 1
    tags = tags_of(house)
    writer_tags = tags_by_paths(house, writer, tags[writer])
    reader_tags = tags_by_paths(house, reader, tags[reader])
    leasts = {path: value_at(kind, 0) for path, kind in leaves_of(house.forms[reader])}
    told = []
    for strand in strands_of(house, last):
        reads = []
        for part in let_parts_of(house, strand, writer):
            values = {writer_tags[path]: value for path, value in zip(strand[writer], part)}
            reads.append((part, tuple([values.get(reader_tags[path], leasts[path]) for path in strand[reader]])))
        told.append((strand, reads))
    return told


def _filled(house, version, strand, parts):
    """For each of the parts in a strand the whole with the least let parts of all other groups."""
    return [least_with(house.forms[version], strand[version], part) for part in parts]


def _least_twins(reads):
    """The least pair of parts from which the same part is read, or None."""
    parts_by_own = {}
    for part, own in reads:
        parts_by_own.setdefault(own, []).append(part)
    return min([tuple(parts[:2]) for parts in parts_by_own.values() if len(parts) > 1], default=None)
