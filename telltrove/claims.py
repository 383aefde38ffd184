"""Claims about all papers of an epoch."""

from telltrove.closures import is_closed
from telltrove.formulas import holds, paths_of
from telltrove.strands import bundle_of
from telltrove.walks import Walks, ask_small_bundle


def claimed(house, epoch, formula):
    """The least row that breaks a claim, or a paper that shows that it holds."""
    walks = Walks(house)
    bundle = _bundle_about(house, epoch, formula)
    walk = walks.walk(epoch, bundle)
    breaks = []
    for parts, row in zip(walk.states, walk.rows):
        if not _is_true(house, bundle, formula, parts):
            breaks.append((len(row), row))
    if breaks:
        return "breaks", min(breaks)[1]
    return "holds", walks.states_by_epochs(epoch, bundle)


def judge_claim(house, epoch, formula, paper):
    """Tells whether a claim paper shows that a claim holds."""
    bundle = _bundle_about(house, epoch, formula)
    ask_small_bundle(house, bundle)
    if not is_closed(house, epoch, bundle, paper):
        return False
    return all([_is_true(house, bundle, formula, parts) for parts in paper[epoch]])


def _bundle_about(house, epoch, formula):
    """The bundle that a claim is about."""
    nodes = []
    for claim_path in paths_of(formula):
        name, _, path = claim_path.partition(":")
        nodes.append((house.number_of(name), path))
    return bundle_of(house, epoch, tuple(nodes))


def _is_true(house, bundle, formula, parts):
    """Tells whether a claim is true of a part state of its bundle."""
    paths = [f"{house.names[version]}:{path}" for version, own in enumerate(bundle) for path in own]
    return holds(formula, paths, [value for part in parts for value in part])
