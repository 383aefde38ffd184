"""Recodes: what codes become from epoch to epoch."""

from telltrove.bundles import bundle_then, extended_part
from telltrove.classes import codes_in
from telltrove.parts import picked
from telltrove.strands import strands_within
from telltrove.walks import Walks


def recode(house, epoch, bundle):
    """Pairs of the codes in the epoch ahead and the code in an epoch, ascending."""
    return recode_with(Walks(house), epoch, bundle)


def recode_with(walks, epoch, bundle):
    """The recode of a bundle of the house of the walks."""
    house = walks.house
    laters = codes_by_states(walks, epoch, bundle)
    elder = bundle_then(house, epoch - 1, bundle)
    strands = [strand for _, strand in strands_within(house, epoch - 1, bundle)]
    tables = [codes_by_states(walks, epoch - 1, strand) for strand in strands]
    codes = {}
    for parts in walks.walk(epoch - 1, elder).states:
        told = tuple([table[_narrowed(elder, strand, parts)] for strand, table in zip(strands, tables)])
        codes[told] = laters[extended_part(house, epoch, bundle, parts)]
    return tuple(sorted(codes.items()))


def codes_by_states(walks, epoch, bundle):
    """A dict with the code of each reached state of a bundle in an epoch."""
    walk = walks.walk(epoch, bundle)
    return dict(zip(walk.states, codes_in(walk)))


def _narrowed(bundle, strand, parts):
    """What a part state of a bundle has in one of its strands."""
    return tuple([picked(paths, part, some) for paths, part, some in zip(bundle, parts, strand)])
