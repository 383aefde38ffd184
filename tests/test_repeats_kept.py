"""The same question is answered the same way behind other questions, and nothing is changed: promise [2] for what tells, writes and
keeps papers."""

import random
import unittest

from kept import NOTHING, RULED, answer_of, lets_of, new_store, some_deal, some_formula, some_rng, store_houses, tables_of
from small import HIDING, LINE, PAIR, house_of, let_wholes, some_houses

from telltrove.answers import answered
from telltrove.disk import Disk
from telltrove.forms import leaves_of
from telltrove.houses import House
from telltrove.pages import page_of, paper_bytes, papers_of
from telltrove.rewrites import judge_rewrite, rewrite, true_of
from telltrove.store import Store
from telltrove.streams import Feed, framed
from telltrove.tables import Tables
from telltrove.tags import tags_of
from telltrove.tells import told_by
from telltrove.wirejudge import wire_lost, wire_unlike, wire_unsafe
from telltrove.wires import bytes_of, read_wire, wire_of

LARGE = house_of("open a { n : num 0 .. 60 ; z : num 0 .. 1 ; } add b from a { m : num 0 .. 400 ; step n to m by clip ; step z to none by apart 0 [ ] ; }")
# Houses with the same names and leaves, but other ways.
TWINS = tuple(house_of(f"open a {{ n : num 0 .. 2 ; }} add b from a {{ n : num 0 .. 2 ; step n to n by {way} ; }}")
              for way in ("same", "rank", "apart 1 2", "table [ 0 , 0 , 1 ] [ 0 , 2 , 2 ]"))
HOUSES = [LINE, HIDING, PAIR, RULED, NOTHING, LARGE, *TWINS, *some_houses(6, first=6300, fields=3, rules=(0, 1))]


def questions():
    """Questions, each a function and its arguments; houses come as they are."""
    rng = some_rng("questions")
    asked = [(framed, ()), (framed, (1, 2, 3)), (framed, (0,) * 300)]
    asked += [(bytes_of, kind, value) for kind, value in ((("num", 0, 299), 258), (("num", 0, 255), 3), (("opt", ("num", 1, 256)), (7,)))]
    for house in HOUSES:
        asked.append((tags_of, house))
        last = len(house.events) - 1
        for epoch in range(last + 1):
            for version in house.living(epoch):
                paths = [path for path, _ in leaves_of(house.forms[version])]
                for other in house.living(epoch):
                    if paths:
                        asked.append((told_by, house, epoch, version, tuple(rng.sample(paths, rng.randint(1, min(2, len(paths))))), other))
        for version, form in enumerate(house.forms):
            whole = rng.choice(let_wholes(form))
            wire = wire_of(house, version, whole, ((99, (1,)),))
            asked += [(wire_of, house, version, whole), (wire_of, house, version, whole, ((88, ()),)), (read_wire, house, version, wire),
                      (read_wire, house, version, wire[:-1]), (read_wire, house, version, ()), (read_wire, house, version, (5, 1, 1))]
            if house is not LARGE:
                asked += [(function, house, version, rng.randrange(len(house.forms))) for function in (wire_unlike, wire_unsafe, wire_lost)]
    for house in store_houses(8):
        tables = tables_of(house)
        for epoch in range(len(house.events)):
            papers = tuple(rng.choice((None, tuple(rng.randrange(many) for many in tables.many(epoch)))) for _ in range(4))
            block = page_of(tables, epoch, papers)
            asked += [(paper_bytes, tables, epoch), (page_of, tables, epoch, papers), (papers_of, tables, block)]
            asked += about_formulas(rng, tables, epoch)
    return asked


def about_formulas(rng, tables, epoch):
    asked = []
    for version in tables.house.living(epoch):
        leaves = leaves_of(tables.house.forms[version])
        for other in tables.house.living(epoch):
            if leaves:
                formula = some_formula(rng, leaves, 2)
                codes = tuple(rng.randrange(many) for many in tables.many(epoch))
                tree = rewrite(tables, epoch, version, formula)
                asked += [(answered, tables.house, epoch, version, formula, other), (rewrite, tables, epoch, version, formula),
                          (true_of, tree, codes), (judge_rewrite, tables, epoch, version, formula, tree),
                          (judge_rewrite, tables, epoch, version, formula, ("not", tree)), (judge_rewrite, tables, epoch, version, formula, ("maybe",))]
    return asked


def fresh(thing):
    """An equal thing that is another object."""
    if isinstance(thing, House):
        return House(eval(repr(thing.events)))
    if isinstance(thing, Tables):
        return Tables(fresh(thing.house))
    return thing if callable(thing) else eval(repr(thing))


def plain(thing):
    return isinstance(thing, tuple)


class Repeats(unittest.TestCase):

    def test_the_same_answers_in_any_order(self):
        asked = questions()
        self.assertGreater(len(asked), 300)
        arguments = repr([[part for part in question if plain(part)] for question in asked])
        events = repr([house.events for house in HOUSES])
        first = [answer_of(*question) for question in asked]
        self.assertGreater(len(set(first)), 130)
        for seed in range(3):
            for at in random.Random(seed).sample(range(len(asked)), len(asked)):
                self.assertEqual(answer_of(*asked[at]), first[at], asked[at][0])
        self.assertEqual(repr([[part for part in question if plain(part)] for question in asked]), arguments)
        self.assertEqual(repr([house.events for house in HOUSES]), events)

    def test_equal_arguments(self):
        for question in questions()[::2]:
            self.assertEqual(answer_of(*[fresh(part) for part in question]), answer_of(*question), question[0])

    def test_only_tuples_numbers_strings_and_none_are_told(self):
        def judge(thing):
            self.assertIn(type(thing), (tuple, int, str, type(None)))
            if isinstance(thing, tuple):
                for inner in thing:
                    judge(inner)

        for function, *arguments in questions():
            if function in (true_of, judge_rewrite):
                self.assertIs(type(function(*arguments)), bool)
            elif not answer_of(function, *arguments).startswith(("BadBytes", "TooLarge")):
                judge(function(*arguments))

    def test_objects_of_all_kinds_by_turns(self):
        """What stores, disks and feeds tell does not hang on what others are asked between."""
        houses = store_houses(8)
        plans = []
        for at, house in enumerate(houses):
            rng = some_rng("plan", at)
            epoch = 0
            plan = []
            for _ in range(25):
                choice = rng.random()
                version = rng.choice(house.living(epoch))
                key = rng.randrange(24)
                if choice < 0.15:
                    plan.append(("go_on",))
                    epoch = min(epoch + 1, len(house.events) - 1)
                elif choice < 0.4:
                    plan.append(("deal", some_deal(rng, house, epoch), rng.choice((None, (rng.randrange(4), (1,))))))
                elif choice < 0.5:
                    plan.append(("put", house.names[version], key, rng.choice(lets_of(house)[version])))
                else:
                    plan.append(rng.choice((("read", house.names[version], key), ("drop", house.names[version], key), ("batch",), ("batch", 2),
                                            ("present_keys",), ("at_rest",), ("session", rng.randrange(4)), ("paper", key))))
            plans.append(plan)
        alone = []
        for house, plan in zip(houses, plans):
            store = Store(Tables(house), Disk())
            alone.append([(answer_of(getattr(store, word), *arguments), store.disk.blocks, store.epoch) for word, *arguments in plan])
        stores = [new_store(house) for house in houses]
        others = questions()
        feed = Feed()
        order = [at for at, plan in enumerate(plans) for _ in plan]
        rng = some_rng("turns")
        rng.shuffle(order)
        places = [0] * len(plans)
        for at in order:
            word, *arguments = plans[at][places[at]]
            store = stores[at]
            told = (answer_of(getattr(store, word), *arguments), store.disk.blocks, store.epoch)
            self.assertEqual(told, alone[at][places[at]])
            places[at] += 1
            answer_of(*rng.choice(others))
            feed.hear((1,))


if __name__ == "__main__":
    unittest.main()
