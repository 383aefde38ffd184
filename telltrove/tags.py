"""Tags of leaves: they stay when a leaf is renamed or moved, and never come back for something else."""

from telltrove.forms import leaves_of


def tags_of(house):
    """For each version the tags of its leaves, in order."""
    told = []
    newest = 0
    for version, form in enumerate(house.forms):
        kept = _kept_tags(house, version, told)
        tags = []
        for path, _ in leaves_of(form):
            if path not in kept:
                newest += 1
                kept[path] = newest
            tags.append(kept[path])
        told.append(tuple(tags))
    return tuple(told)


def _kept_tags(house, version, told):
    """A dict with the tags of the leaves that are those of leaves of the parent."""
    kept = {}
    for lefts, rights, way in house.changes[version]:
        if len(lefts) == 1 and len(rights) == 1 and way == ("same",):
            parent = house.parents[version]
            kept[rights[0]] = tags_by_paths(house, parent, told[parent])[lefts[0]]
    return kept


def tags_by_paths(house, version, tags):
    """A dict with the tag of each path of a version whose leaves have these tags."""
    return dict(zip([path for path, _ in leaves_of(house.forms[version])], tags))
