"""What one version tells of a formula of another one."""

from telltrove.formulas import holds, paths_of
from telltrove.strands import bundle_of
from telltrove.tells import least_open
from telltrove.walks import Walks


def answered(house, epoch, version, formula, other):
    """Whether a living version tells if a formula of another one is true, and when, or where it does not."""
    bundle = bundle_of(house, epoch, tuple([(version, path) for path in paths_of(formula)]))
    states = Walks(house).walk(epoch, bundle).states
    truths = [holds(formula, bundle[version], parts[version]) for parts in states]
    pair = least_open(states, other, truths)
    if pair is not None:
        return "open", *pair
    return "told", tuple(sorted(set([parts[other] for parts, truth in zip(states, truths) if truth])))
