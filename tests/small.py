"""Small houses for the tests, and plain searches over rows of deeds to compare with."""

import itertools
import random

from telltrove.errors import BadEvent
from telltrove.forms import flat_of, leaves_of, whole_of
from telltrove.formulas import holds, paths_of
from telltrove.hall import Hall
from telltrove.houses import House
from telltrove.kinds import is_value, size_of, value_at
from telltrove.reading import read_house
from telltrove.spreads import extended, spread
from telltrove.ways import fits

LINE_TEXT = (
    "open a { n : num 0 .. 2 ; } add b from a { m : num 0 .. 1 ; step n to m by clip ; } "
    "add c from b { k : num 0 .. 2 ; step m to k by clip ; } retire c ;")


def house_of(text):
    return House(read_house(text))


LINE = house_of(LINE_TEXT)

# b is retired in the end. While a has 0, it can have 1 or 2 there, which neither a nor c shows; but when a puts 1, the 1
# stays and the 2 becomes 3, and c shows that.
HIDING = house_of(
    "open a { n : num 0 .. 1 ; } add b from a { m : num 0 .. 3 ; step n to m by table [ 1 , 3 ] [ 0 , 1 , 0 , 1 ] ; } "
    "add c from b { k : num 0 .. 1 ; step m to k by table [ 0 , 0 , 0 , 1 ] [ 0 , 3 ] ; } retire b ;")

# Several strands; o and h . s come and go, and c joins what was apart.
PAIR = house_of(
    "open a { n : num 0 .. 2 ; o : opt num 0 .. 1 ; e : rec { } ; h : rec { s : pick { x , y } ; } ; } "
    "add b from a { p : opt num 0 .. 1 ; n : num 0 .. 1 ; z : num 0 .. 1 ; step n to n by clip ; step o to p by same ; "
    "step h . s to none by apart x [ ] ; step none to z by apart [ ] 1 ; } retire a ; "
    "add c from b { n : num 0 .. 1 ; q : row 1 of num 0 .. 1 ; step n , z to n by apart [ 0 , 0 ] 1 ; step p to q by apart [ ] [ 1 ] ; } "
    "retire b ;")


def values_of(kind):
    return [value_at(kind, rank) for rank in range(size_of(kind))]


# Part states, seen through whole states: leaves that are not in the bundle have their least values.


def part_in(house, bundle, version, whole):
    paths = [path for path, _ in leaves_of(house.forms[version])]
    return tuple(value for path, value in zip(paths, flat_of(house.forms[version], whole)) if path in bundle[version])


def whole_with(house, bundle, version, part):
    values = dict(zip(bundle[version], part))
    form = house.forms[version]
    return whole_of(form, tuple(values.get(path, value_at(kind, 0)) for path, kind in leaves_of(form)))


def parts_in(house, bundle, state):
    return None if state is None else tuple(part_in(house, bundle, version, whole) for version, whole in enumerate(state))


def state_with(house, bundle, parts):
    return None if parts is None else tuple(whole_with(house, bundle, version, part) for version, part in enumerate(parts))


def then(house, epoch, bundle):
    """The bundle without the versions that are not present in the epoch."""
    return bundle[:house.present(epoch)]


def spread_by_wholes(house, epoch, bundle, parts, version, part):
    here = then(house, epoch, bundle)
    state = spread(house, epoch, state_with(house, here, parts), version, whole_with(house, here, version, part))
    return parts_in(house, here, state)


def extended_by_wholes(house, epoch, bundle, parts):
    state = extended(house, epoch, state_with(house, then(house, epoch - 1, bundle), parts))
    return parts_in(house, then(house, epoch, bundle), state)


def lets_in(house, bundle, version):
    """The let parts of a version in a bundle, ascending."""
    form = house.forms[version]
    kinds = dict(leaves_of(form))
    rules = [rule for rule in form[2] if set(paths_of(rule)) <= set(bundle[version])]
    parts = itertools.product(*[values_of(kinds[path]) for path in bundle[version]])
    return [part for part in parts if all(holds(rule, bundle[version], part) for rule in rules)]


class Search:
    """Plain searches over rows of deeds of one bundle of an epoch."""

    def __init__(self, house, epoch, bundle):
        self.house = house
        self.epoch = epoch
        self.bundle = bundle
        self.lets = [lets_in(house, bundle, version) for version in range(len(bundle))]
        self.known = {}

    def deeds(self, epoch):
        return [(epoch, version, part) for version in self.house.living(epoch) for part in self.lets[version]]

    def later(self, past, epoch, parts):
        for at in range(past + 1, epoch + 1):
            key = (at, parts)
            if key not in self.known:
                self.known[key] = extended_by_wholes(self.house, at, self.bundle, parts)
            parts = self.known[key]
        return parts

    def spread(self, epoch, parts, version, part):
        key = (epoch, parts, version, part)
        if key not in self.known:
            self.known[key] = spread_by_wholes(self.house, epoch, self.bundle, parts, version, part)
        return self.known[key]

    def played(self, row):
        past, parts = 0, None
        for at, version, part in row:
            parts = self.spread(at, self.later(past, at, parts), version, part)
            past = at
        return self.later(past, self.epoch, parts)

    def rows(self, most):
        """All rows of 1 to so many deeds, by length, ascending."""
        deeds = [deed for epoch in range(self.epoch + 1) for deed in self.deeds(epoch)]
        for many in range(1, most + 1):
            for row in itertools.product(deeds, repeat=many):
                if all(row[at][0] <= row[at + 1][0] for at in range(many - 1)):
                    yield row

    def least_rows(self, most=None):
        """The least row of each reached state; with a most, None if there are more of them."""
        rows = {(0, None): ()}
        level = dict(rows)
        ends = {}
        while level:
            after = {}
            for (past, parts), row in sorted(level.items(), key=lambda pair: pair[1]):
                for epoch in range(past, self.epoch + 1):
                    here = self.later(past, epoch, parts)
                    for deed in self.deeds(epoch):
                        key = (epoch, self.spread(epoch, here, *deed[1:]))
                        if key not in rows and row + (deed,) < after.get(key, ((99,),)):
                            after[key] = row + (deed,)
            for (past, parts), row in sorted(after.items(), key=lambda pair: pair[1]):
                ends.setdefault(self.later(past, self.epoch, parts), row)
            if most is not None and len(ends) > most:
                return None
            rows.update(after)
            level = after
        return ends

    def view(self, parts):
        return tuple(parts[version] for version in self.house.living(self.epoch))

    def parting(self, one, two, most=99):
        """The least tuple of pairs of a living version and a let part behind which two states show a difference, or None."""
        level = [((one, two), ())]
        seen = {(one, two)}
        for _ in range(most + 1):
            after = []
            for (here, there), row in level:
                if self.view(here) != self.view(there):
                    return row
                for _, version, part in self.deeds(self.epoch):
                    pair = (self.spread(self.epoch, here, version, part), self.spread(self.epoch, there, version, part))
                    if pair not in seen:
                        seen.add(pair)
                        after.append((pair, row + ((version, part),)))
            level = after
        return None

    def classes(self, states):
        """The codes of states that are ascending."""
        firsts = []
        codes = []
        for parts in states:
            alike = [code for code, first in enumerate(firsts) if self.parting(first, parts) is None]
            if not alike:
                alike = [len(firsts)]
                firsts.append(parts)
            codes.append(alike[0])
        return codes


# Tables of part states that are judged.


def is_table(search, told, forbids):
    """Whether told has right states of each epoch and is closed; with forbids also whether none is forbidden."""
    house, bundle = search.house, search.bundle
    for epoch, states in enumerate(told):
        if not all(is_part_state(house, then(house, epoch, bundle), parts) for parts in states):
            return False
    for epoch, states in enumerate(told):
        for _, version, part in search.deeds(epoch):
            if any(search.spread(epoch, before, version, part) not in states for before in (None,) + states):
                return False
        if epoch and any(search.later(epoch - 1, epoch, parts) not in states for parts in told[epoch - 1]):
            return False
        if forbids and any(parts[version] not in search.lets[version] for parts in states for version in house.living(epoch)):
            return False
    return True


def is_part_state(house, bundle, parts):
    if len(parts) != len(bundle):
        return False
    for version, paths in enumerate(bundle):
        kinds = dict(leaves_of(house.forms[version]))
        if len(parts[version]) != len(paths) or not all(is_value(kinds[path], value) for path, value in zip(paths, parts[version])):
            return False
    return True


def every(house, bundle):
    """All part states, in tune or not."""
    states = [()]
    for version, paths in enumerate(bundle):
        kinds = dict(leaves_of(house.forms[version]))
        parts = [()]
        for path in paths:
            parts = [part + (value,) for part in parts for value in values_of(kinds[path])]
        states = [parts_so_far + (part,) for parts_so_far in states for part in parts][:101]
    return tuple(states)


# Strands by following links.


def strands_by_links(house, epoch):
    nodes = [(version, path) for version in range(house.present(epoch)) for path, _ in leaves_of(house.forms[version])]
    ties = []
    for version in range(house.present(epoch)):
        for lefts, rights, _ in house.changes[version]:
            ties.append({(house.parents[version], path) for path in lefts} | {(version, path) for path in rights})
        ties.extend({(version, path) for path in paths_of(rule)} for rule in house.forms[version][2])
    strands = []
    left = list(nodes)
    while left:
        strand = {left[0]}
        for _ in nodes:
            for tie in ties:
                if tie & strand:
                    strand |= tie
        left = [node for node in left if node not in strand]
        strands.append(tuple(tuple(path for at, path in nodes if at == version and (at, path) in strand)
                             for version in range(house.present(epoch))))
    return tuple(strands)


def union(house, epoch, bundles):
    """The union of bundles of an epoch."""
    return tuple(tuple(path for path, _ in leaves_of(house.forms[version]) if any(path in bundle[version] for bundle in bundles))
                 for version in range(house.present(epoch)))


def unions_of(house, epoch, most=8):
    """Some bundles of an epoch: unions of some of its strands, also of none."""
    strands = strands_by_links(house, epoch)
    subsets = [some for many in range(len(strands) + 1) for some in itertools.combinations(strands, many)]
    return [union(house, epoch, some) for some in subsets[:most - 1] + subsets[most - 1:][-1:]]


# Houses that are made up by chance, from a seed.

BIT = ("num", 0, 1)
KINDS = (BIT, BIT, ("num", 0, 2), ("num", 1, 2), ("num", 0, 0), ("pick", ("x", "y")), ("opt", BIT), ("row", BIT, 1),
         ("one", (("p", BIT), ("q", ("num", 3, 3)))), ("one", (("q", BIT), ("r", BIT))), ("rec", (("x", BIT), ("y", ("num", 0, 2)))),
         ("rec", ()), ("opt", ("rec", (("x", BIT),))))


def some_way(rng, left, right, depth=3):
    """A way that fits, often one that is not apart."""
    tries = [("same",), ("rank",), ("clip",)]
    if max(size_of(left), size_of(right)) <= 12:
        tries.append(("table", tuple(rng.choice(values_of(right)) for _ in range(size_of(left))),
                      tuple(rng.choice(values_of(left)) for _ in range(size_of(right)))))
    if depth and right[0] == "opt":
        tries.append(("some", some_way(rng, left, right[1], depth - 1), rng.choice(values_of(left))))
    if depth and left[0] == "opt":
        tries.append(("must", some_way(rng, left[1], right, depth - 1), rng.choice(values_of(right))))
    if depth and left[0] == right[0] and left[0] in ("opt", "row"):
        tries.append(({"opt": "opt", "row": "each"}[left[0]], some_way(rng, left[1], right[1], depth - 1)))
    if depth and left[0] == "one" and right[0] == "one":
        pairs = [(one, two) for one in left[1] for two in right[1]]
        tries.append(("arms", tuple((one[0], two[0], some_way(rng, one[1], two[1], depth - 1)) for one, two in pairs)))
    if depth and left[0] == "rec" and right[0] == "rec" and len(left[1]) == len(right[1]):
        places = rng.sample(range(len(left[1])), len(left[1]))
        tries.append(("parts", tuple((at, place, some_way(rng, left[1][at][1], right[1][place][1], depth - 1))
                                     for at, place in enumerate(places))))
    right_ones = [way for way in tries if fits(way, left, right)]
    if right_ones and rng.random() < 0.85:
        return rng.choice(right_ones)
    return "apart", rng.choice(values_of(left)), rng.choice(values_of(right))


def some_rule(rng, leaves):
    path, kind = rng.choice(leaves)
    alike = [other for other, own in leaves if own == kind]
    numbers = [other for other, own in leaves if own[0] == "num"]
    other, other_kind = rng.choice(leaves)
    nots = [("not", ("is", path, rng.choice(values_of(kind)))), ("not", ("is", other, rng.choice(values_of(other_kind))))]
    choices = [nots[0], ("same", path, rng.choice(alike)), ("or", *nots), ("or", *nots)]
    if kind[0] == "num":
        choices.append(("upto", path, rng.choice(numbers), rng.choice((-1, 0, 0, 1))))
    if kind[0] == "opt":
        choices.append(("has", path))
    return rng.choice(choices)


def some_form(rng, most, rules):
    fields = tuple((name, rng.choice(KINDS)) for name in "uvw"[:rng.randint(1, most)])
    leaves = leaves_of(("form", fields, ()))
    chosen = tuple(some_rule(rng, leaves) for _ in range(rng.choice(rules))) if leaves else ()
    return "form", fields, chosen


def side(form, paths):
    """The kind of a side of a step."""
    kinds = dict(leaves_of(form))
    return kinds[paths[0]] if len(paths) == 1 else ("rec", tuple(zip("abcd", [kinds[path] for path in paths])))


def some_change(rng, left, right):
    lefts = [path for path, _ in leaves_of(left)]
    rights = [path for path, _ in leaves_of(right)]
    rng.shuffle(rights)
    steps = []
    while lefts or rights:
        some = (rng.choice((1, 1, 1, 1, 2, 0)), rng.choice((1, 1, 1, 1, 2, 0)))
        step = (tuple(lefts[:some[0]]), tuple(rights[:some[1]]))
        lefts, rights = lefts[some[0]:], rights[some[1]:]
        if step != ((), ()):
            steps.append((*step, some_way(rng, side(left, step[0]), side(right, step[1]))))
    return tuple(steps)


def some_house(seed, events=5, fields=2, rules=(0, 0, 0, 1)):
    """A house with so many events; names are a to f."""
    rng = random.Random(seed)
    told = [("open", "a", some_form(rng, fields, rules))]
    while len(told) < events:
        house = House(tuple(told))
        living = house.living(len(told) - 1)
        if len(living) > 1 and rng.random() < 0.35:
            told.append(("retire", house.names[rng.choice(living)]))
        elif len(house.names) < 6:
            parent = rng.choice(living)
            form = some_form(rng, fields, rules)
            told.append(("add", "abcdef"[len(house.names)], house.names[parent], form, some_change(rng, house.forms[parent], form)))
    return House(tuple(told))


def some_table_house(seed, adds=3, retires=2, top=3):
    """A house of versions with one number each, led by tables, of which some are retired in the end; what is retired often
    decides what comes out later."""
    rng = random.Random(seed)
    told = [("open", "a", number_form(rng, top))]
    for name in "bcdef"[:adds]:
        house = House(tuple(told))
        parent = rng.randrange(len(house.names))
        form = number_form(rng, top)
        left, right = house.forms[parent][1][0][1], form[1][0][1]
        way = ("table", tuple(rng.choice(values_of(right)) for _ in values_of(left)), tuple(rng.choice(values_of(left)) for _ in values_of(right)))
        told.append(("add", name, house.names[parent], form, ((("n",), ("n",), way),)))
    gone = rng.sample("abcdef"[:adds + 1], retires)
    return House(tuple(told) + tuple(("retire", name) for name in gone))


def table_houses(many, first=0, **told):
    return [some_table_house(seed, **told) for seed in range(first, first + many)]


def number_form(rng, top):
    return "form", (("n", ("num", 0, rng.randint(1, top))),), ()


def some_houses(many, first=0, least_lets=True, **told):
    """Houses, each of whose forms has a let whole, unless it is told otherwise."""
    houses = []
    seed = first
    while len(houses) < many:
        try:
            house = some_house(seed, **told)
        except BadEvent:
            house = None
        seed += 1
        if house is not None and (not least_lets or all(has_let(form) for form in house.forms)):
            houses.append(house)
    return houses


def has_let(form):
    return len(let_wholes(form)) > 0


# Rows of whole deeds, done in a hall on one key.


def hall_behind(house, epoch, row, key=7):
    """The hall in an epoch in which the whole deeds were done."""
    hall = Hall(house)
    for at, version, whole in row:
        while hall.epoch < at:
            hall.go_on()
        hall.put(house.names[version], key, whole)
    while hall.epoch < epoch:
        hall.go_on()
    return hall


def state_behind(house, epoch, row):
    """The whole state in an epoch behind whole deeds, None if there is no paper."""
    return dict(hall_behind(house, epoch, row).state[1]).get(7)


def some_whole_row(rng, house, epoch, most=4):
    """Some whole deeds up to an epoch."""
    epochs = sorted(rng.randint(0, epoch) for _ in range(rng.randint(1, most)))
    versions = [rng.choice(house.living(at)) for at in epochs]
    return tuple((at, version, rng.choice(let_wholes(house.forms[version]))) for at, version in zip(epochs, versions))


def let_wholes(form):
    """All let wholes of a small form, ascending."""
    paths = [path for path, _ in leaves_of(form)]
    flats = itertools.product(*[values_of(kind) for _, kind in leaves_of(form)])
    return [whole_of(form, flat) for flat in flats if all(holds(rule, paths, flat) for rule in form[2])]


def told_apart(house, epoch, one, two):
    """Whether some row of whole deeds of living versions shows a living version a difference."""
    living = house.living(epoch)
    deeds = [(version, whole) for version in living for whole in let_wholes(house.forms[version])]
    pairs = [(one, two)]
    seen = set(pairs)
    for here, there in pairs:
        if any(here[version] != there[version] for version in living):
            return True
        for version, whole in deeds:
            pair = (spread(house, epoch, here, version, whole), spread(house, epoch, there, version, whole))
            if pair[0] != pair[1] and pair not in seen:
                seen.add(pair)
                pairs.append(pair)
    return False
