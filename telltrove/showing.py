"""What codes show of a leaf."""


def values_shown(tables, epoch, version, path):
    """The number of the strand that has a leaf of a living version, and for each of its codes the leaf's value."""
    number = strand_with(tables, epoch, version, path)
    seat = tables.house.living(epoch).index(version)
    place = tables.strands(epoch)[number][version].index(path)
    return number, tuple([view[seat][place] for view in tables.book(epoch, number)[3]])


def strand_with(tables, epoch, version, path):
    """The number of the strand that has a leaf of a present version."""
    return [path in strand[version] for strand in tables.strands(epoch)].index(True)
