"""Nodes, strands and bundles."""

from telltrove.forms import leaves_of
from telltrove.formulas import paths_of
from telltrove.unions import unions


def strands_of(house, epoch):
    """The strands of an epoch, as bundles, in the order of their first nodes."""
    return tuple([_bundle(house, epoch, nodes) for nodes in unions(_nodes_of(house, epoch), _ties_of(house, epoch))])


def bundle_of(house, epoch, nodes):
    """The union of the strands that have some of the nodes."""
    found = []
    for strand in unions(_nodes_of(house, epoch), _ties_of(house, epoch)):
        if any([node in strand for node in nodes]):
            found.extend(strand)
    return _bundle(house, epoch, found)


def strands_within(house, epoch, bundle):
    """The strands of an epoch that are in a bundle of it or of a later one: pairs of their numbers and themselves."""
    return tuple([(number, strand) for number, strand in enumerate(strands_of(house, epoch)) if _meet(strand, bundle)])


def _meet(strand, bundle):
    """Tells whether a strand and a bundle have a node in common."""
    return any([path in there for here, there in zip(strand, bundle) for path in here])


def _nodes_of(house, epoch):
    """All nodes of an epoch, in order."""
    return [(version, path) for version in range(house.present(epoch)) for path, _ in leaves_of(house.forms[version])]


def _ties_of(house, epoch):
    """The nodes of each step and each rule of the present versions."""
    ties = []
    for version in range(house.present(epoch)):
        parent = house.parents[version]
        for lefts, rights, _ in house.changes[version]:
            ties.append([(parent, path) for path in lefts] + [(version, path) for path in rights])
        for rule in house.forms[version][2]:
            ties.append([(version, path) for path in paths_of(rule)])
    return ties


def _bundle(house, epoch, nodes):
    """The bundle that has these nodes."""
    paths = [[] for _ in range(house.present(epoch))]
    for version, path in _nodes_of(house, epoch):
        if (version, path) in nodes:
            paths[version].append(path)
    return tuple([tuple(own) for own in paths])
