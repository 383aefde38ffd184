"""What the interface lists is there, as it is written, in the file under which it is listed."""

import importlib
import inspect
import unittest

from telltrove import errors
from telltrove.disk import Disk
from telltrove.followers import Follower
from telltrove.hall import Hall
from telltrove.houses import House
from telltrove.reading import read_house
from telltrove.store import Store
from telltrove.tables import Tables

FUNCTIONS = {
    "kinds": ("is_kind(kind)", "is_value(kind, value)", "size_of(kind)", "rank_of(kind, value)", "value_at(kind, rank)"),
    "forms": ("is_form(form)", "is_whole(form, value)", "leaves_of(form)", "flat_of(form, whole)", "whole_of(form, flat)"),
    "formulas": ("is_formula(leaves, formula)", "paths_of(formula)", "holds(formula, paths, part)"),
    "letting": ("groups_of(form)", "is_let(form, whole)", "let_parts(form, paths)", "least_let(form)", "let_many(form)",
                "unmet(form, formula)"),
    "tokens": ("tokens_of(text)",),
    "reading": ("read_house(text)",),
    "writing": ("write_house(events)", "write_kind(kind)", "write_formula(formula)", "write_way(way)", "write_value(value)"),
    "ways": ("fits(way, left, right)", "mirror(way)"),
    "leading": ("related(way, left, right, a, b)", "led(way, left, right, a, b=None)"),
    "steady": ("unsteady(way, left, right)", "lost_pair(way, left, right)"),
    "changes": ("side_kind(form, paths)", "mirrored(change)", "led_flat(left, right, change, flat, old=None)",
                "related_flats(left, right, change, flat, other)"),
    "spreads": ("spread(house, epoch, state, version, whole)", "extended(house, epoch, state)", "in_tune(house, epoch, state)",
                "forbidden(house, epoch, state)"),
    "strands": ("strands_of(house, epoch)", "bundle_of(house, epoch, nodes)"),
    "parts": ("part_of(house, bundle, version, whole)", "part_state(house, bundle, state)", "let_parts_of(house, bundle, version)",
              "joined(house, epoch, version, parts)"),
    "bundles": ("spread_part(house, bundle, state, version, part)", "extended_part(house, epoch, bundle, state)"),
    "rows": ("deeds_of(house, epoch, bundle)", "played(house, epoch, bundle, row)", "whole_row(house, bundle, row)"),
    "reach": ("reached(house, epoch, bundle)",),
    "verdicts": ("verdict(house)",),
    "letpapers": ("let_paper(house)", "judge_let(house, paper)"),
    "claims": ("claimed(house, epoch, formula)", "judge_claim(house, epoch, formula, paper)"),
    "classes": ("classes_of(house, epoch, bundle)",),
    "books": ("book_of(house, epoch, bundle)", "code_behind(book, code, deeds)"),
    "partings": ("parting(book, c, d)",),
    "codepapers": ("code_paper(house, epoch, bundle)", "judge_codes(house, epoch, bundle, paper)"),
    "recodes": ("recode(house, epoch, bundle)",),
    "forgets": ("forgotten(house, epoch)", "hidden(house, epoch, bundle)"),
    "tells": ("told_by(house, epoch, version, paths, other)",),
    "tags": ("tags_of(house)",),
    "wires": ("bytes_of(kind, value)", "wire_of(house, version, whole, rest=())", "read_wire(house, version, data)"),
    "wirejudge": ("wire_unlike(house, writer, reader)", "wire_unsafe(house, writer, reader)", "wire_lost(house, writer, reader)"),
    "streams": ("framed(data)",),
    "pages": ("paper_bytes(tables, epoch)", "page_of(tables, epoch, papers)", "papers_of(tables, block)"),
    "asks": ("ask(store, name, question)",),
    "rewrites": ("rewrite(tables, epoch, version, formula)", "true_of(tree, codes)", "judge_rewrite(tables, epoch, version, formula, tree)"),
    "answers": ("answered(house, epoch, version, formula, other)",),
}
METHODS = {
    ("houses", "House"): ("__init__(self, events)", "living(self, epoch)", "present(self, epoch)", "number_of(self, name)"),
    ("hall", "Hall"): ("__init__(self, house)", "put(self, name, key, whole)", "drop(self, name, key)", "read(self, name, key)",
                       "deal(self, deeds)", "present_keys(self)", "go_on(self)", "resume(self, state)", "trial(self)",
                       "tried(self, deeds)"),
    ("tables", "Tables"): ("__init__(self, house)", "book(self, epoch, number)", "many(self, epoch)", "codes(self, epoch, state)",
                           "whole(self, epoch, codes, version)", "started(self, epoch, version, whole)",
                           "moved(self, epoch, codes, version, whole)", "lifted(self, low, high, codes)",
                           "parted(self, epoch, codes, others)"),
    ("streams", "Feed"): ("__init__(self)", "hear(self, piece)", "held(self)"),
    ("disk", "Disk"): ("__init__(self, blocks=(), room=None)", "write(self, number, block)"),
    ("store", "Store"): ("__init__(self, tables, disk)", "put(self, name, key, whole)", "drop(self, name, key)", "read(self, name, key)",
                         "present_keys(self)", "go_on(self)", "deal(self, deeds, session=None)", "batch(self, many=1)",
                         "session(self, client)", "paper(self, key)", "at_rest(self)"),
    ("indexes", "Index"): ("__init__(self, store, name, path)", "step(self)", "covered(self)", "found(self, name, path, value)"),
    ("clients", "Client"): ("__init__(self, house, client, name)", "ask_read(self, key)", "ask_put(self, key, whole)", "ask_drop(self, key)",
                            "again(self)", "hear(self, answer)"),
    ("service", "Service"): ("__init__(self, store)", "hear(self, letter)"),
    ("leaders", "Leader"): ("__init__(self, store)", "deal(self, deeds)", "page_note(self, page)", "stamp(self, page)"),
    ("followers", "Follower"): ("__init__(self, tables)", "hear(self, note)", "go_on(self)", "read(self, name, key)", "paper(self, key)",
                                "page(self, number)", "floor(self, page)", "tombstones(self)", "waiting(self)"),
}
# Each error, the one directly above it, and its attributes.
ERRORS = {
    "TroveError": ("ValueError", ()), "BadText": ("TroveError", ("at",)), "BadEvent": ("TroveError", ("at", "reason")),
    "TooLarge": ("TroveError", ("part",)), "Refused": ("TroveError", ("verdict",)), "DeedError": ("TroveError", ()),
    "LastEpoch": ("TroveError", ()), "BadBytes": ("TroveError", ("at",)), "NoIndex": ("TroveError", ("path",)),
    "Cut": ("TroveError", ()), "NoVersion": ("DeedError", ("name",)), "Retired": ("DeedError", ("name",)),
    "BadKey": ("DeedError", ("key",)), "BadValue": ("DeedError", ("name",)),
}


class Interface(unittest.TestCase):

    def test_functions(self):
        for module, told in FUNCTIONS.items():
            held = importlib.import_module("telltrove." + module)
            for line in told:
                with self.subTest(module=module, line=line):
                    function = getattr(held, line.partition("(")[0])
                    self.assertTrue(inspect.isfunction(function))
                    self.assertEqual(function.__name__ + str(inspect.signature(function)), line)
                    self.assertEqual(function.__module__, "telltrove." + module)

    def test_methods(self):
        for (module, name), told in METHODS.items():
            held = getattr(importlib.import_module("telltrove." + module), name)
            self.assertEqual(held.__module__, "telltrove." + module)
            for line in told:
                with self.subTest(name=name, line=line):
                    method = vars(held)[line.partition("(")[0]]
                    self.assertEqual(method.__name__ + str(inspect.signature(method)), line)
        self.assertIsInstance(vars(Hall)["state"], property)
        self.assertIsNotNone(vars(Hall)["state"].fset)
        self.assertIsInstance(vars(Disk)["blocks"], property)

    def test_attributes(self):
        house = House(read_house("open a { n : num 0 .. 1 ; }"))
        for name in ("events", "names", "parents", "forms", "changes"):
            self.assertTrue(hasattr(house, name))
        self.assertTrue(hasattr(Hall(house), "epoch"))
        tables = Tables(house)
        self.assertIs(tables.house, house)
        disk = Disk()
        store = Store(tables, disk)
        self.assertEqual((store.epoch, store.tables, store.disk), (0, tables, disk))
        self.assertEqual(Follower(tables).epoch, 0)


class Errors(unittest.TestCase):

    def test_what_stands_under_what(self):
        for name, (above, _) in ERRORS.items():
            held = getattr(errors, name)
            self.assertEqual((held.__name__, held.__module__), (name, "telltrove.errors"))
            self.assertTrue(issubclass(held, ValueError))
            chain = [name]
            while chain[-1] in ERRORS:
                chain.append(ERRORS[chain[-1]][0])
            for other in ERRORS:
                with self.subTest(name=name, other=other):
                    self.assertIs(issubclass(held, getattr(errors, other)), other in chain)

    def test_attributes(self):
        for name, (_, attributes) in ERRORS.items():
            held = getattr(errors, name)
            for values in ((1, "x"), ("p", 2), ((), True), (None, ())):
                with self.subTest(name=name, values=values):
                    given = values[:len(attributes)]
                    with self.assertRaises(held) as caught:
                        raise held(*given)
                    told = [repr(getattr(caught.exception, attribute)) for attribute in attributes]
                    self.assertEqual(told, [repr(value) for value in given])
                    self.assertIsInstance(str(caught.exception), str)


if __name__ == "__main__":
    unittest.main()
