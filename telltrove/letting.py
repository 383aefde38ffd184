"""Which wholes and parts the rules of a form let."""

from telltrove.errors import TooLarge
from telltrove.formulas import holds, paths_of
from telltrove.forms import flat_of, leaves_of, whole_of
from telltrove.kinds import size_of_all, tuples_of
from telltrove.unions import unions

MOST_PARTS = 400


def groups_of(form):
    """The groups of a form: tuples of paths, in the order of their first leaves."""
    return unions([path for path, _ in leaves_of(form)], [paths_of(rule) for rule in form[2]])


def is_let(form, whole):
    """Tells whether all rules of the form are true of a whole of it."""
    paths = [path for path, _ in leaves_of(form)]
    flat = flat_of(form, whole)
    return all(holds(rule, paths, flat) for rule in form[2])


def let_parts(form, paths):
    """The let parts of leaves that are made of whole groups, ascending."""
    ask_small(form, paths)
    kinds = dict(leaves_of(form))
    rules = [rule for rule in form[2] if paths_of(rule)[0] in paths]
    parts = tuples_of([kinds[path] for path in paths])
    return tuple([part for part in parts if all([holds(rule, paths, part) for rule in rules])])


def ask_small(form, paths):
    """Raises TooLarge if there are too many parts to look through."""
    kinds = dict(leaves_of(form))
    if size_of_all([kinds[path] for path in paths]) > MOST_PARTS:
        raise TooLarge("part")


def ask_small_groups(form):
    """Raises TooLarge if some group of a form has too many parts."""
    for group in groups_of(form):
        ask_small(form, group)


def least_let(form):
    """The least let whole of a form, None if there is none."""
    ask_small_groups(form)
    return least_with(form, (), ())


def least_with(form, paths, part):
    """The least let whole with this let part of whole groups; None if some other group has no let part."""
    values = dict(zip(paths, part))
    for group in groups_of(form):
        if group[0] in values:
            continue
        parts = let_parts(form, group)
        if not parts:
            return None
        for path, value in zip(group, parts[0]):
            values[path] = value
    return whole_of(form, tuple([values[path] for path, _ in leaves_of(form)]))


def let_many(form):
    """The number of let wholes of a form."""
    many = 1
    for group in groups_of(form):
        many = many * len(let_parts(form, group))
    return many


def unmet(form, formula):
    """The least let whole of which a formula is false, None if the formula follows from the form."""
    ask_small_groups(form)
    mentioned = paths_of(formula)
    groups = [group for group in groups_of(form) if any([path in mentioned for path in group])]
    paths = [path for path, _ in leaves_of(form) if any([path in group for group in groups])]
    for part in let_parts(form, paths):
        if not holds(formula, paths, part):
            return least_with(form, paths, part)
    return None
