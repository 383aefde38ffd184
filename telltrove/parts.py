"""Parts of wholes and states in a bundle."""

from telltrove.forms import flat_of, leaves_of, whole_of
from telltrove.letting import let_parts
from telltrove.strands import strands_of


def part_of(house, bundle, version, whole):
    """The part of a version's whole in a bundle."""
    form = house.forms[version]
    paths = [path for path, _ in leaves_of(form)]
    return picked(paths, flat_of(form, whole), bundle[version])


def picked(paths, values, some):
    """Of the values of leaves with these paths those of some paths, in the same order."""
    return tuple([value for path, value in zip(paths, values) if path in some])


def part_state(house, bundle, state):
    """The part state of a state, None of None."""
    if state is None:
        return None
    return tuple([part_of(house, bundle, version, whole) for version, whole in enumerate(state)])


def let_parts_of(house, bundle, version):
    """The let parts of a version in a bundle, ascending."""
    return let_parts(house.forms[version], bundle[version])


def form_in(house, bundle, version):
    """The form that has the leaves of a version in a bundle as its fields, and no rules; its wholes are the parts."""
    return "form", tuple([leaf for leaf in leaves_of(house.forms[version]) if leaf[0] in bundle[version]]), ()


def joined(house, epoch, version, parts):
    """The whole of a version that has these parts in the strands of an epoch, in order."""
    return joined_in(house, strands_of(house, epoch), version, parts)


def joined_in(house, strands, version, parts):
    """The whole of a version that has these parts in strands, which have all its leaves."""
    form = house.forms[version]
    values = {}
    for strand, part in zip(strands, parts):
        for path, value in zip(strand[version], part):
            values[path] = value
    return whole_of(form, tuple([values[path] for path, _ in leaves_of(form)]))
