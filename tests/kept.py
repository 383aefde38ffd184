"""Helpers for the tests of stores and of all that stands on them."""

import functools
import random

from small import HIDING, LINE, PAIR, house_of, let_wholes, some_houses, table_houses, values_of

from telltrove.disk import Disk
from telltrove.errors import Cut, TroveError
from telltrove.forms import leaves_of
from telltrove.hall import Hall
from telltrove.kinds import size_of
from telltrove.store import Store
from telltrove.tables import Tables
from telltrove.verdicts import verdict

# Rules, several leaves, a version that is retired while pages of its epochs are there, and versions from elder parents.
RULED = house_of(
    "open a { n : num 0 .. 2 ; m : num 0 .. 2 ; o : opt num 0 .. 1 ; rule n <= m + 0 ; } "
    "add b from a { x : num 0 .. 2 ; y : num 0 .. 2 ; o : num 0 .. 1 ; rule x <= y + 0 ; "
    "step n to x by same ; step m to y by same ; step o to o by must 1 same ; } "
    "add c from a { k : num 0 .. 5 ; p : opt num 0 .. 1 ; step n , m to k by table [ 0 , 1 , 2 , 0 , 3 , 4 , 0 , 0 , 5 ] "
    "[ [ 0 , 0 ] , [ 0 , 1 ] , [ 0 , 2 ] , [ 1 , 1 ] , [ 1 , 2 ] , [ 2 , 2 ] ] ; step o to p by same ; } "
    "retire a ; add d from c { q : num 0 .. 1 ; w : row 2 of num 0 .. 1 ; step k to none by apart 0 [ ] ; step p to q by must 0 same ; "
    "step none to w by apart [ ] [ 1 ] ; } retire c ;")
# Leaves of all kinds that formulas ask about, each in a strand of its own but for n and p of a.
WORDS = house_of(
    "open a { n : num 0 .. 2 ; p : num 0 .. 1 ; o : opt num 0 .. 1 ; r : row 2 of num 0 .. 0 ; t : one { x : num 0 .. 1 ; y : num 5 .. 5 ; } ; } "
    "add b from a { k : num 0 .. 1 ; o : opt num 0 .. 1 ; u : opt num 0 .. 1 ; r : row 3 of num 0 .. 0 ; t : one { x : num 0 .. 1 ; z : num 5 .. 5 ; } ; "
    "step n , p to k by apart [ 0 , 0 ] 1 ; step o to o by same ; step none to u by apart [ ] [ 1 ] ; step r to r by each same ; "
    "step t to t by arms { x to x by same ; y to z by same ; } ; } "
    "retire a ; add c from b { k : num -1 .. 1 ; l : num -1 .. 1 ; o : num 0 .. 1 ; step k to k by clip ; step none to l by apart [ ] 0 ; "
    "step o , u to o by apart [ [ ] , [ ] ] 1 ; step r to none by apart [ ] [ ] ; step t to none by apart [ x , 1 ] [ ] ; }")
NOTHING = house_of("open a { e : rec { } ; } add b from a { e : rec { } ; f : rec { } ; } retire a ;")
EMPTY = ((),) * 32


@functools.lru_cache(maxsize=None)
def tables_by_events(house):
    return Tables(house)


def tables_of(house):
    """Tables of a house, the same ones each time: so they are asked by turns by all who stand on them."""
    return tables_by_events(house)


@functools.lru_cache(maxsize=None)
def store_houses(many=25, most=60):
    """Houses with the verdict let, whose forms have few let wholes."""
    houses = [LINE, HIDING, PAIR, RULED, NOTHING] + table_houses(6, first=900, adds=4, retires=3)
    houses += some_houses(60, first=6000, fields=2, events=6, rules=(0, 0, 1)) + some_houses(30, first=6100, fields=3, events=5)
    small = [house for house in houses if all(few_wholes(form, most) for form in house.forms)]
    return [house for house in small if verdict(house) == ("let",)][:many]


def few_wholes(form, most):
    many = 1
    for _, kind in leaves_of(form):
        many *= size_of(kind)
    return many <= most


@functools.lru_cache(maxsize=None)
def lets_of(house):
    """For each version all let wholes."""
    return [let_wholes(form) for form in house.forms]


def some_deed(rng, house, epoch, keys=range(24)):
    """A deed of a living version that is not refused."""
    version = rng.choice(house.living(epoch))
    if rng.random() < 0.25:
        return "drop", house.names[version], rng.choice(keys)
    return "put", house.names[version], rng.choice(keys), rng.choice(lets_of(house)[version])


def some_deal(rng, house, epoch, keys=range(24), most=8):
    return tuple(some_deed(rng, house, epoch, keys) for _ in range(rng.randint(0, most)))


def some_bottom(rng, leaves):
    """A right formula without formulas inside."""
    path, kind = rng.choice(leaves)
    choices = [("is", path, rng.choice(values_of(kind))), ("same", path, rng.choice([other for other, own in leaves if own == kind]))]
    if kind[0] == "num":
        other = rng.choice([other for other, own in leaves if own[0] == "num"])
        choices += [("most", path, rng.randint(kind[1] - 1, kind[2])), ("upto", path, other, rng.randint(-2, 2))]
    if kind[0] == "opt":
        choices.append(("has", path))
    if kind[0] == "one":
        choices.append(("tag", path, rng.choice(kind[1])[0]))
    if kind[0] == "row":
        choices.append(("long", path, rng.randint(-1, kind[2] + 1)))
    return rng.choice(choices)


def some_formula(rng, leaves, depth=4):
    """A right formula of at most so many formulas deep, with at most 8 without formulas inside."""
    choice = rng.random()
    if depth == 1 or choice < 0.3:
        return some_bottom(rng, leaves)
    if choice < 0.5:
        return "not", some_formula(rng, leaves, depth - 1)
    return rng.choice(("and", "or")), some_formula(rng, leaves, depth - 1), some_formula(rng, leaves, depth - 1)


def words_in(formula):
    """The words of a formula and of those in it."""
    inner = [part for part in formula[1:] if formula[0] in ("not", "and", "or")]
    return [formula[0]] + [word for part in inner for word in words_in(part)]


def answer_of(function, *arguments):
    """The answer as a text, in which True is not 1, or the error and its attributes."""
    try:
        return repr(function(*arguments))
    except TroveError as error:
        return type(error).__name__ + repr(vars(error))


def new_store(house, room=None):
    return Store(tables_of(house), Disk((), room))


def opened(house, blocks, room=None):
    """A store that is opened with blocks of a disk."""
    return Store(tables_of(house), Disk(blocks, room))


def hall_and_store(rng, house, steps=12, keys=range(24)):
    """A hall and a store behind the same history; the store also recodes batches and is opened again."""
    hall, store = Hall(house), new_store(house)
    for _ in range(steps):
        choice = rng.random()
        if choice < 0.2 and hall.epoch + 1 < len(house.events):
            hall.go_on()
            store.go_on()
        elif choice < 0.3:
            store.batch(rng.randrange(4))
        elif choice < 0.35:
            store = opened(house, store.disk.blocks)
        else:
            deeds = some_deal(rng, house, hall.epoch, keys, 5)
            hall.deal(deeds)
            store.deal(deeds)
    return hall, store


def codes_in_hall(hall, key):
    """The codes that the paper of a hall should have, None if there is none."""
    papers = dict(hall.state[1])
    return tables_of(hall.house).codes(hall.epoch, papers[key]) if key in papers else None


def cut_everywhere(act, blocks, open_store):
    """Runs an act on a store that is opened with the blocks, with room for 0, 1, 2 .. writes, until it is not cut.

    Tells the blocks behind each cut, and behind the act that was done.
    """
    behind = []
    for room in range(200):
        store = open_store(blocks, room)
        try:
            act(store)
        except Cut:
            behind.append(store.disk.blocks)
            continue
        return behind, store.disk.blocks
    raise AssertionError("it does not end")


def some_rng(*seeds):
    return random.Random(repr(seeds))
