"""The document's examples that use what is there, answer for answer."""

import unittest

LINE = (
    "open a { n : num 0 .. 2 ; } add b from a { m : num 0 .. 1 ; step n to m by clip ; } "
    "add c from b { k : num 0 .. 2 ; step m to k by clip ; } retire c ;"
)


class Examples(unittest.TestCase):

    def same(self, told, answer):
        self.assertEqual(repr(told), answer)

    def test_kinds_and_forms(self):
        from telltrove.kinds import rank_of, size_of, value_at
        self.same(size_of(("row", ("num", 0, 1), 2)), "7")
        self.same(rank_of(("row", ("num", 0, 1), 2), (1,)), "4")
        self.same(value_at(("rec", (("a", ("num", 0, 2)), ("b", ("pick", ("no", "yes"))))), 3), "(1, 'yes')")
        from telltrove.forms import leaves_of
        self.same(leaves_of(("form", (("home", ("rec", (("no", ("num", 1, 9)), ("up", ("opt", ("num", 0, 1)))))),
                                      ("x", ("num", 0, 0))), ())),
                  "(('home.no', ('num', 1, 9)), ('home.up', ('opt', ('num', 0, 1))), ('x', ('num', 0, 0)))")

    def test_letting(self):
        from telltrove.letting import least_let, let_many
        form = ("form", (("p", ("num", 0, 2)), ("q", ("num", 0, 2))), (("not", ("upto", "p", "q", 0)),))
        self.same(least_let(form), "(1, 0)")
        self.same(let_many(form), "3")

    def test_reading_and_writing(self):
        from telltrove.errors import BadText
        from telltrove.reading import read_house
        self.same(read_house("open a { n : num 0 .. 2 ; rule not n = 1 ; } retire a ;"),
                  "(('open', 'a', ('form', (('n', ('num', 0, 2)),), (('not', ('is', 'n', 1)),))), ('retire', 'a'))")
        with self.assertRaises(BadText) as caught:
            read_house("open a { n : num 0 2 ; }")
        self.same(caught.exception.at, "7")
        from telltrove.writing import write_formula
        self.same(write_formula(("or", ("has", "p"), ("or", ("most", "q", -2), ("tag", "r", "x")))),
                  "'has p or ( q <= -2 or r tag x )'")

    def test_leading(self):
        from telltrove.leading import led
        self.same(led(("clip",), ("num", 0, 2), ("num", 0, 5), 2, 4), "4")
        self.same(led(("clip",), ("num", 0, 2), ("num", 0, 5), 1, 4), "1")
        self.same(led(("each", ("same",)), ("row", ("num", 0, 5), 2), ("row", ("num", 0, 5), 4), (3, 1), (3, 2, 5)), "(3, 1, 5)")
        self.same(led(("some", ("same",), 0), ("num", 0, 3), ("opt", ("num", 0, 3)), 0, ()), "()")

    def test_steady(self):
        from telltrove.steady import lost_pair, unsteady
        self.same(lost_pair(("clip",), ("num", 0, 3), ("num", 0, 1)), "(1, 2)")
        self.same(unsteady(("clip",), ("num", 0, 1), ("num", 0, 2)), "(2, 0, 1)")

    def test_houses_and_halls(self):
        from telltrove.errors import BadEvent
        from telltrove.hall import Hall
        from telltrove.houses import House
        from telltrove.reading import read_house
        from telltrove.spreads import spread
        with self.assertRaises(BadEvent) as caught:
            House(read_house("open a { n : num 0 .. 2 ; } retire a ;"))
        self.same((caught.exception.at, caught.exception.reason), "(1, 'last')")
        house = House(read_house(LINE))
        self.same(spread(house, 2, ((2,), (1,), (1,)), 2, (2,)), "((2,), (1,), (2,))")
        hall = Hall(house)
        hall.put("a", 5, (2,))
        hall.go_on()
        hall.put("b", 5, (1,))
        self.same(hall.read("a", 5), "(2,)")

    def test_strands_and_what_is_reached(self):
        from telltrove.houses import House
        from telltrove.reach import reached
        from telltrove.reading import read_house
        from telltrove.strands import strands_of
        house = House(read_house(LINE))
        self.same(strands_of(house, 1), "((('n',), ('m',)),)")
        self.same(reached(house, 1, strands_of(house, 1)[0]),
                  "((((0,), (0,)), ((0, 0, (0,)),)), (((1,), (1,)), ((0, 0, (1,)),)), (((2,), (1,)), ((0, 0, (2,)),)))")

    def test_verdicts_and_claims(self):
        from telltrove.claims import claimed
        from telltrove.houses import House
        from telltrove.reading import read_house
        from telltrove.verdicts import verdict
        self.same(verdict(House(read_house("open a { n : num 0 .. 2 ; } add b from a { m : num 0 .. 2 ; rule not m = 1 ; step n to m by same ; }"))),
                  "('breaks', 1, 0, ((0, 0, (1,)),), 1)")
        self.same(claimed(House(read_house(LINE)), 2, ("upto", "a:n", "c:k", 0)), "('breaks', ((0, 0, (2,)),))")

    def test_codes(self):
        from telltrove.books import book_of
        from telltrove.classes import classes_of
        from telltrove.forgets import forgotten
        from telltrove.houses import House
        from telltrove.reading import read_house
        from telltrove.recodes import recode
        from telltrove.strands import strands_of
        house = House(read_house(LINE))
        strand = strands_of(house, 3)[0]
        self.same(classes_of(house, 3, strand), "((((0,), (0,), (0,)), 0), (((1,), (1,), (1,)), 1), (((1,), (1,), (2,)), 1), "
                  "(((2,), (1,), (1,)), 2), (((2,), (1,), (2,)), 2))")
        self.same(book_of(house, 3, strand), "('book', ((0, (0,)), (0, (1,)), (0, (2,)), (1, (0,)), (1, (1,))), (0, 1, 2, 0, 1), "
                  "(((0,), (0,)), ((1,), (1,)), ((2,), (1,))), ((0, 1, 2, 0, 1), (0, 1, 2, 0, 1), (0, 1, 2, 0, 2)))")
        self.same(forgotten(house, 3), "((0, 1, 2),)")
        self.same(recode(house, 3, strand), "(((0,), 0), ((1,), 1), ((2,), 1), ((3,), 2), ((4,), 2))")

    def test_bytes_and_streams(self):
        from telltrove.houses import House
        from telltrove.reading import read_house
        from telltrove.streams import Feed
        from telltrove.tags import tags_of
        from telltrove.wirejudge import wire_unlike
        from telltrove.wires import bytes_of, read_wire
        house = House(read_house(LINE))
        self.same(tags_of(house), "((1,), (2,), (3,))")
        self.same(bytes_of(("num", 0, 299), 258), "(1, 2)")
        self.same(read_wire(house, 1, (1, 1, 2)), "((0,), ((1, (2,)),))")
        self.same(wire_unlike(house, 0, 1), "(1,)")
        feed = Feed()
        self.same(feed.hear((0, 2, 7)), "()")
        self.same(feed.hear((8, 0)), "((7, 8),)")

    def test_the_store(self):
        from telltrove.disk import Disk
        from telltrove.houses import House
        from telltrove.reading import read_house
        from telltrove.store import Store
        from telltrove.tables import Tables
        store = Store(Tables(House(read_house(LINE))), Disk())
        store.put("a", 5, (2,))
        self.same(store.disk.blocks[:3], "((0, 0), (0, 0, 0, 0, 0), (0, 0, 3, 0, 0))")

    def test_asks_clients_and_leaders(self):
        from telltrove.asks import ask
        from telltrove.clients import Client
        from telltrove.disk import Disk
        from telltrove.houses import House
        from telltrove.leaders import Leader
        from telltrove.reading import read_house
        from telltrove.store import Store
        from telltrove.tables import Tables
        house = House(read_house(LINE))
        store = Store(Tables(house), Disk())
        store.put("a", 5, (2,))
        store.go_on()
        self.same(ask(store, "b", ("values", "m", ("most", "m", 1))), "(1,)")
        self.same(Client(house, 1, "a").ask_put(5, (2,)), "(1, 0, 1, 0, 2, 5, 1, 1, 2)")
        leader = Leader(Store(Tables(house), Disk()))
        self.same(leader.deal((("put", "a", 5, (2,)), ("drop", "a", 5))), "((0, 5, 0, 1, 0, 0),)")


if __name__ == "__main__":
    unittest.main()
