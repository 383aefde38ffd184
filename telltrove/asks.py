"""Questions to a store."""

from telltrove.deeds import living_version
from telltrove.forms import flat_of, leaves_of
from telltrove.formulas import holds


def ask(store, name, question):
    """The answer to a question about all papers, as the living version with this name has them."""
    house = store.tables.house
    version = living_version(house, store.epoch, name)
    form = house.forms[version]
    paths = [path for path, _ in leaves_of(form)]
    hits = []
    for key, codes in store.all_papers():
        flat = flat_of(form, store.tables.whole(store.epoch, codes, version))
        if holds(question[-1], paths, flat):
            hits.append((key, flat))
    if question[0] == "keys":
        return tuple([key for key, _ in hits])
    if question[0] == "many":
        return len(hits)
    place = paths.index(question[1])
    values = sorted(set([flat[place] for _, flat in hits]))
    if question[0] == "values":
        return tuple(values)
    return values[0] if values else None
