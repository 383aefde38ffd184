"""Papers in bytes: promises [42], [43] and [44]."""

import itertools
import random
import unittest

from small import LINE, PAIR, house_of, let_wholes, some_houses

from telltrove.errors import BadBytes
from telltrove.forms import flat_of, leaves_of, whole_of
from telltrove.kinds import rank_of, size_of, value_at
from telltrove.tags import tags_of
from telltrove.wires import bytes_of, read_wire, wire_of

# Leaves of 1, 0 and 2 bytes with the tags 1, 2 and 3; b has them in another order, and 4 between.
SIZES = house_of(
    "open a { p : num 0 .. 2 ; q : num 7 .. 7 ; r : num 0 .. 299 ; } "
    "add b from a { r : num 0 .. 299 ; s : num 1 .. 2 ; p : num 0 .. 2 ; "
    "step r to r by same ; step none to s by apart [ ] 1 ; step p to p by same ; step q to none by apart 7 [ ] ; } "
    "add c from b { t : num 0 .. 1 ; p : num 0 .. 2 ; step none to t by apart [ ] 0 ; step p to p by same ; "
    "step r to none by apart 0 [ ] ; step s to none by apart 1 [ ] ; }")


def number_of_bytes(kind):
    return next(many for many in range(99) if 256 ** many >= size_of(kind))


def entries_in(house, version, whole, rest=()):
    """The entries of a wire, as lists of bytes by tags."""
    entries = {tag: list(data) for tag, data in rest}
    for tag, (_, kind), value in zip(tags_of(house)[version], leaves_of(house.forms[version]), flat_of(house.forms[version], whole)):
        entries[tag] = list(rank_of(kind, value).to_bytes(number_of_bytes(kind), "big"))
    return entries


def wire_by_entries(house, version, whole, rest=()):
    wire = []
    for tag, data in sorted(entries_in(house, version, whole, rest).items()):
        wire += [tag, len(data)] + data
    return tuple(wire)


def read_by_hand(house, version, data):
    """(whole, rest) or the place of the first fault."""
    leaves = dict(zip(tags_of(house)[version], [kind for _, kind in leaves_of(house.forms[version])]))
    left = list(enumerate(data))
    told, ahead = {}, 0
    while left:
        at, tag = left.pop(0)
        if tag <= ahead:
            return at
        ahead = tag
        if not left:
            return len(data)
        at, many = left.pop(0)
        if tag in leaves and many != number_of_bytes(leaves[tag]):
            return at
        if many > len(left):
            return len(data)
        own = tuple(byte for _, byte in left[:many])
        del left[:many]
        if tag in leaves and int.from_bytes(bytes(own), "big") >= size_of(leaves[tag]):
            return at + 1
        told[tag] = own
    flat = tuple(value_at(kind, int.from_bytes(bytes(told.get(tag, ())), "big")) for tag, kind in leaves.items())
    return whole_of(house.forms[version], flat), tuple((tag, own) for tag, own in told.items() if tag not in leaves)


def answer_to(house, version, data):
    try:
        return read_wire(house, version, data)
    except BadBytes as error:
        return error.at


class Bytes(unittest.TestCase):

    def test_sizes(self):
        for size, many in ((1, 0), (2, 1), (256, 1), (257, 2), (65536, 2), (65537, 3)):
            kinds = [("num", -100, size - 101)] if size < 1000 else []
            # A pair, or an arm more, where one num cannot have so many values.
            kinds.append({1: ("rec", ()), 2: ("pick", ("x", "y")), 256: ("rec", (("x", ("num", 0, 15)), ("y", ("num", -8, 7)))),
                          257: ("opt", ("num", 1, 256)), 65536: ("rec", (("x", ("num", 0, 255)), ("y", ("num", 0, 255)))),
                          65537: ("opt", ("rec", (("x", ("num", 0, 255)), ("y", ("num", 0, 255)))))}[size])
            for kind in kinds:
                self.assertEqual(size_of(kind), size)
                for rank in {0, 1 % size, size // 2, size - 1}:
                    told = bytes_of(kind, value_at(kind, rank))
                    self.assertEqual(told, tuple(rank.to_bytes(many, "big")))
                    self.assertEqual(len(told), many)

    def test_by_hand(self):
        self.assertEqual(bytes_of(("num", 0, 299), 258), (1, 2))
        self.assertEqual(bytes_of(("num", 0, 299), 0), (0, 0))
        self.assertEqual(bytes_of(("num", -5, -5), -5), ())
        self.assertEqual(bytes_of(("num", -128, 127), 127), (255,))
        self.assertEqual(bytes_of(("opt", ("pick", ("x", "y"))), ("y",)), (2,))
        self.assertEqual(bytes_of(("row", ("num", 0, 999), 4), (999, 999, 999, 999)), tuple((10 ** 12 + 10 ** 9 + 10 ** 6 + 1000).to_bytes(5, "big")))
        large = ("rec", tuple((name, ("num", 0, 999)) for name in "abcdef"))
        self.assertEqual(bytes_of(large, (999,) * 6), tuple((10 ** 18 - 1).to_bytes(8, "big")))


class Written(unittest.TestCase):

    def test_by_hand(self):
        self.assertEqual(wire_of(LINE, 0, (2,)), (1, 1, 2))
        self.assertEqual(wire_of(LINE, 2, (1,)), (3, 1, 1))
        self.assertEqual(wire_of(SIZES, 0, (2, 7, 258)), (1, 1, 2, 2, 0, 3, 2, 1, 2))
        self.assertEqual(wire_of(house_of("open a { e : rec { } ; }"), 0, ((),)), ())

    def test_ascending_by_tags_not_by_leaves(self):
        self.assertEqual(tags_of(SIZES)[1:], ((3, 4, 1), (5, 1)))
        self.assertEqual(wire_of(SIZES, 1, (258, 2, 1)), (1, 1, 1, 3, 2, 1, 2, 4, 1, 1))
        self.assertEqual(wire_of(SIZES, 2, (1, 2)), (1, 1, 2, 5, 1, 1))

    def test_rests_between_ahead_and_behind(self):
        self.assertEqual(wire_of(SIZES, 1, (258, 2, 1), ((2, ()),)), (1, 1, 1, 2, 0, 3, 2, 1, 2, 4, 1, 1))
        self.assertEqual(wire_of(LINE, 1, (1,), ((1, (9, 9)),)), (1, 2, 9, 9, 2, 1, 1))
        self.assertEqual(wire_of(LINE, 1, (1,), ((3, ()), (255, (0,)))), (2, 1, 1, 3, 0, 255, 1, 0))
        self.assertEqual(wire_of(LINE, 1, (1,), rest=((1, ()), (3, (7,)))), (1, 0, 2, 1, 1, 3, 1, 7))
        long = tuple(range(255))
        self.assertEqual(wire_of(LINE, 0, (0,), ((200, long),)), (1, 1, 0, 200, 255) + long)
        self.assertEqual(wire_of(LINE, 0, (0,), ()), wire_of(LINE, 0, (0,)))

    def test_compared(self):
        rng = random.Random(41)
        for house in [LINE, PAIR, SIZES] + some_houses(40, first=5300, fields=3):
            for version, form in enumerate(house.forms):
                for whole in rng.sample(let_wholes(form), min(4, len(let_wholes(form)))):
                    others = [tag for tag in range(1, 256) if tag not in tags_of(house)[version]]
                    rest = tuple((tag, tuple(rng.randrange(256) for _ in range(rng.randrange(4))))
                                 for tag in sorted(rng.sample(others[:12] + others[-3:], rng.randrange(5))))
                    wire = wire_of(house, version, whole, rest)
                    self.assertEqual(wire, wire_by_entries(house, version, whole, rest))
                    self.assertEqual(read_wire(house, version, wire), (whole, rest))


class Faults(unittest.TestCase):

    def fault(self, version, data, at):
        with self.assertRaises(BadBytes) as caught:
            read_wire(SIZES, version, data)
        self.assertEqual(caught.exception.at, at, data)

    def test_tags_that_do_not_ascend(self):
        self.fault(0, (0, 1, 1), 0)
        self.fault(0, (0,), 0)
        self.fault(0, (1, 1, 1, 1, 1, 1), 3)
        self.fault(0, (3, 2, 0, 0, 1, 1, 1), 4)
        self.fault(0, (2, 0, 0, 0), 2)
        self.fault(0, (9, 1, 4, 9, 0), 3)
        self.fault(0, (9, 1, 4, 8), 3)

    def test_no_number(self):
        self.fault(0, (1,), 1)
        self.fault(0, (1, 1, 2, 3), 4)
        self.fault(0, (200,), 1)

    def test_a_number_that_is_not_the_leafs(self):
        self.fault(0, (1, 0), 1)
        self.fault(0, (1, 2, 0, 0), 1)
        self.fault(0, (2, 1, 0), 1)
        self.fault(0, (1, 1, 0, 3, 1, 0), 4)
        self.fault(0, (1, 255), 1)
        self.fault(0, (1, 1, 0, 3, 3, 0, 0, 0), 4)

    def test_too_few_bytes(self):
        self.fault(0, (1, 1), 2)
        self.fault(0, (3, 2, 1), 3)
        self.fault(0, (1, 1, 0, 3, 2), 5)
        self.fault(0, (7, 255, 1, 2), 4)
        self.fault(0, (7, 1), 2)

    def test_bytes_that_are_not_less_than_the_size(self):
        self.fault(0, (1, 1, 3), 2)
        self.fault(0, (1, 1, 2, 3, 2, 1, 44), 5)
        self.fault(0, (3, 2, 255, 255), 2)
        self.fault(1, (4, 1, 2), 2)
        self.assertEqual(read_wire(SIZES, 0, (1, 1, 2, 3, 2, 1, 43)), ((2, 7, 299), ()))

    def test_the_first_fault_is_told(self):
        # In each entry: the tag, then no number, then the number, then too few bytes, then the size.
        self.fault(0, (1, 1, 3, 0), 2)
        self.fault(0, (1, 1, 1, 1), 3)
        self.fault(0, (1, 1, 1, 1, 9, 9), 3)
        self.fault(0, (3, 9), 1)
        self.fault(0, (3, 2, 255), 3)
        self.fault(0, (1, 1, 2, 2, 1, 0, 3, 2, 255, 255), 4)

    def test_every_short_data(self):
        for version in range(3):
            for many in range(6):
                for data in itertools.product((0, 1, 2, 3, 4), repeat=many):
                    self.assertEqual(answer_to(SIZES, version, data), read_by_hand(SIZES, version, data), data)

    def test_data_with_one_change(self):
        rng = random.Random(42)
        faults = 0
        for house in [SIZES, PAIR] + some_houses(25, first=5400, fields=3):
            for version, form in enumerate(house.forms):
                whole = rng.choice(let_wholes(form))
                wire = wire_of(house, version, whole, ((90, (1, 2)),))
                for at in range(len(wire)):
                    for byte in (0, 1, 2, 3, wire[at] + 1, 255):
                        data = wire[:at] + (byte,) + wire[at + 1:]
                        own = read_by_hand(house, version, data)
                        self.assertEqual(answer_to(house, version, data), own)
                        faults += isinstance(own, int)
                    for data in (wire[:at], wire[:at] + wire[at + 1:], wire[:at] + wire[at:at + 1] + wire[at:]):
                        self.assertEqual(answer_to(house, version, data), read_by_hand(house, version, data))
        self.assertGreater(faults, 500)


class Read(unittest.TestCase):

    def test_leaves_without_an_entry(self):
        self.assertEqual(read_wire(SIZES, 0, ()), ((0, 7, 0), ()))
        self.assertEqual(read_wire(SIZES, 0, (3, 2, 0, 5)), ((0, 7, 5), ()))
        self.assertEqual(read_wire(SIZES, 1, (1, 1, 2)), ((0, 1, 2), ()))
        self.assertEqual(read_wire(house_of("open a { e : rec { } ; o : opt num 3 .. 4 ; n : num -5 .. 5 ; }"), 0, ()), (((), (), -5), ()))

    def test_unknown_tags_are_the_rest(self):
        self.assertEqual(read_wire(LINE, 1, (1, 1, 2)), ((0,), ((1, (2,)),)))
        self.assertEqual(read_wire(LINE, 1, (1, 0, 2, 1, 1, 255, 3, 0, 0, 255)), ((1,), ((1, ()), (255, (0, 0, 255)))))
        self.assertEqual(read_wire(house_of("open a { e : rec { } ; }"), 0, (5, 0)), (((),), ((5, ()),)))

    def test_it_is_not_asked_whether_the_whole_is_let(self):
        house = house_of("open a { n : num 0 .. 2 ; rule not n = 1 ; }")
        self.assertEqual(read_wire(house, 0, (1, 1, 1)), ((1,), ()))
        self.assertEqual(wire_of(house, 0, (1,)), (1, 1, 1))
        self.assertEqual(read_wire(house_of("open a { n : num 0 .. 2 ; rule not n = 0 ; }"), 0, ()), ((0,), ()))

    def test_retired_versions_write_and_read(self):
        for version in range(3):
            whole = let_wholes(PAIR.forms[version])[-1]
            self.assertEqual(read_wire(PAIR, version, wire_of(PAIR, version, whole)), (whole, ()))


class Between(unittest.TestCase):

    def test_by_hand(self):
        wire = wire_of(SIZES, 0, (2, 7, 258))
        whole, rest = read_wire(SIZES, 2, wire)
        self.assertEqual((whole, rest), ((0, 2), ((2, ()), (3, (1, 2)))))
        self.assertEqual(read_wire(SIZES, 0, wire_of(SIZES, 2, (1, 1), rest)), ((1, 7, 258), ((5, (1,)),)))

    def test_what_is_not_known_is_kept(self):
        rng = random.Random(43)
        kept = written = 0
        for house in [SIZES, PAIR] + some_houses(80, first=5500, fields=3):
            for _ in range(6):
                first, between = rng.randrange(len(house.names)), rng.randrange(len(house.names))
                one, two = [rng.choice(let_wholes(house.forms[version])) for version in (first, between)]
                _, rest = read_wire(house, between, wire_of(house, first, one))
                whole, _ = read_wire(house, first, wire_of(house, between, two, rest))
                tags = tags_of(house)
                news = dict(zip(tags[between], flat_of(house.forms[between], two)))
                olds = flat_of(house.forms[first], one)
                self.assertEqual(flat_of(house.forms[first], whole), tuple(news.get(tag, old) for tag, old in zip(tags[first], olds)))
                kept += any(tag not in news for tag in tags[first])
                written += any(tag in news for tag in tags[first])
        self.assertGreater(min(kept, written), 50)


if __name__ == "__main__":
    unittest.main()
