"""The service: promise [58]."""

import itertools
import unittest

from kept import (PAIR, RULED, WORDS, cut_everywhere, hall_and_store, lets_of, new_store, opened, some_rng, store_houses)
from small import LINE
from test_store import is_at_rest_disk

from telltrove.errors import BadBytes, Cut, DeedError
from telltrove.service import Service
from telltrove.wires import read_wire, wire_of


def heard_in_hall(hall, letter):
    """The status of a letter and what follows it, and the hall has done it."""
    house = hall.house
    version, op, key = letter[3:6]
    if version >= house.present(hall.epoch) or version not in house.living(hall.epoch):
        return (3,)
    name = house.names[version]
    if op not in (1, 2, 3) or key > 23:
        return (4,)
    if op == 1:
        whole = hall.read(name, key)
        return (1,) if whole is None else (0,) + wire_of(house, version, whole)
    if op == 3:
        return (0,) if hall.drop(name, key) else (1,)
    try:
        whole, _ = read_wire(house, version, letter[6:])
    except BadBytes:
        return (5,)
    try:
        hall.put(name, key, whole)
    except DeedError:
        return (6,)
    return (0,)


def some_letter(rng, hall, client, number):
    """A letter, often one that is done, with any fault."""
    house = hall.house
    version = rng.choice(house.living(hall.epoch)) if rng.random() < 0.85 else rng.choice((*range(len(house.names) + 1), 255))
    op = rng.choice((1, 1, 2, 2, 2, 3)) if rng.random() < 0.9 else rng.choice((0, 4, 255))
    key = rng.randrange(6) if rng.random() < 0.9 else rng.choice((23, 24, 255))
    tail = ()
    if op == 2 and version < len(house.names):
        tail = wire_of(house, version, rng.choice(lets_of(house)[version]))
        if rng.random() < 0.2 and tail:
            at = rng.randrange(len(tail))
            tail = tail[:at] + (rng.choice((0, 1, 2, 3, 255)),) + tail[at + 1:]
        elif rng.random() < 0.2:
            tail = tail + (200, 2, 7, 7)
    elif rng.random() < 0.2:
        tail = (1, 2, 3)
    return (client, number // 256, number % 256, version, op, key) + tail


class NotAnswered(unittest.TestCase):

    def setUp(self):
        self.store = new_store(LINE)
        self.service = Service(self.store)
        self.assertEqual(self.service.hear((1, 1, 4, 0, 2, 5, 1, 1, 2)), (1, 1, 4, 0))

    def nothing(self, letter):
        blocks = self.store.disk.blocks
        self.assertEqual(self.service.hear(letter), (), letter)
        self.assertEqual(self.store.disk.blocks, blocks)

    def test_fewer_than_6_bytes(self):
        whole = (0, 0, 1, 0, 3, 5)
        for many in range(6):
            self.nothing(whole[:many])
        self.assertEqual(self.service.hear(whole), (0, 0, 1, 0))

    def test_other_clients(self):
        for client in (4, 5, 255):
            self.nothing((client, 0, 1, 0, 3, 5))

    def test_the_number_0(self):
        for client in range(4):
            self.nothing((client, 0, 0, 0, 3, 5))

    def test_a_lesser_number(self):
        for number in ((0, 1), (0, 255), (1, 0), (1, 3)):
            self.nothing((1, *number, 0, 3, 5))
        # For other clients it is a number like any other.
        self.assertEqual(self.service.hear((0, 0, 1, 0, 1, 5)), (0, 0, 1, 0, 1, 1, 2))
        self.nothing((1, 0, 9, 9, 9, 9))

    def test_what_is_not_answered_needs_no_room(self):
        quiet = Service(opened(LINE, self.store.disk.blocks, 0))
        for letter in ((), (1, 1), (4, 0, 1, 0, 3, 5), (0, 0, 0, 0, 3, 5), (1, 1, 3, 0, 3, 5), (1, 0, 5, 0, 3, 5)):
            self.assertEqual(quiet.hear(letter), ())


class TheSameNumber(unittest.TestCase):

    def test_the_answer_again(self):
        store = new_store(LINE)
        service = Service(store)
        letter = (2, 0, 7, 0, 3, 5)
        store.put("a", 5, (2,))
        self.assertEqual(service.hear(letter), (2, 0, 7, 0))
        blocks = store.disk.blocks
        # Done again it would tell 1; and any letter with this number gets the answer.
        for again in (letter, letter, (2, 0, 7, 0, 2, 5, 1, 1, 1), (2, 0, 7, 9, 9, 99)):
            self.assertEqual(service.hear(again), (2, 0, 7, 0))
            self.assertEqual(store.disk.blocks, blocks)
        self.assertEqual(Service(opened(LINE, blocks, 0)).hear(letter), (2, 0, 7, 0))
        self.assertEqual(service.hear((2, 0, 8, 0, 3, 5)), (2, 0, 8, 1))

    def test_a_read_tells_what_it_told(self):
        store = new_store(LINE)
        service = Service(store)
        store.put("a", 5, (2,))
        self.assertEqual(service.hear((0, 0, 1, 0, 1, 5)), (0, 0, 1, 0, 1, 1, 2))
        self.assertEqual(service.hear((1, 0, 1, 0, 2, 5, 1, 1, 0)), (1, 0, 1, 0))
        self.assertEqual(service.hear((0, 0, 1, 0, 1, 5)), (0, 0, 1, 0, 1, 1, 2))
        self.assertEqual(service.hear((0, 0, 2, 0, 1, 5)), (0, 0, 2, 0, 1, 1, 0))
        store.go_on()
        # The version of the answer stays, whatever epoch it is.
        self.assertEqual(service.hear((0, 0, 2, 0, 1, 5)), (0, 0, 2, 0, 1, 1, 0))

    def test_answers_of_refused_letters(self):
        service = Service(new_store(LINE))
        self.assertEqual(service.hear((0, 0, 3, 1, 1, 0)), (0, 0, 3, 3))
        service.store.go_on()
        self.assertEqual(service.hear((0, 0, 3, 1, 1, 0)), (0, 0, 3, 3))
        self.assertEqual(service.hear((0, 0, 4, 1, 1, 0)), (0, 0, 4, 1))


class Statuses(unittest.TestCase):

    def setUp(self):
        self.store = new_store(RULED)
        self.service = Service(self.store)
        for _ in range(3):
            self.store.go_on()
        self.number = 0

    def heard(self, *told):
        self.number += 1
        answer = self.service.hear((3, 0, self.number, *told))
        self.assertEqual(answer[:3], (3, 0, self.number))
        self.assertEqual(self.store.session(3), answer)
        return answer[3:]

    def test_not_living(self):
        # a is retired, d comes later; 3 comes ahead of all other faults.
        for version in (0, 3, 4, 255):
            for rest in ((1, 0), (2, 0), (3, 0), (0, 0), (9, 99), (2, 24, 1), (2, 0, 0, 0, 0)):
                self.assertEqual(self.heard(version, *rest), (3,))

    def test_no_op_and_no_key(self):
        for op in (0, 4, 5, 255):
            for rest in ((0,), (99,), (0, 1, 1, 1)):
                self.assertEqual(self.heard(1, op, *rest), (4,))
        for op in (1, 2, 3):
            for key in (24, 100, 255):
                self.assertEqual(self.heard(1, op, key, 9), (4,))

    def test_bytes_that_cannot_be_read(self):
        let = wire_of(RULED, 1, (0, 1, 1))
        for tail in ((0,), let[:-1], let + let, (1,), (2, 1), let[:2] + (9,) + let[3:]):
            with self.assertRaises(BadBytes):
                read_wire(RULED, 1, tail)
            self.assertEqual(self.heard(1, 2, 5, *tail), (5,))
        self.assertEqual(self.store.present_keys(), ())

    def test_wholes_that_are_not_let(self):
        self.assertEqual(self.heard(1, 2, 5, *wire_of(RULED, 1, (2, 1, 1))), (6,))
        self.assertEqual(self.store.present_keys(), ())
        # Leaves without entries have their least values, which is let or not.
        self.assertEqual(self.heard(1, 2, 5), (0,))
        self.assertEqual(self.store.read("b", 5), (0, 0, 0))

    def test_puts(self):
        self.assertEqual(self.heard(1, 2, 23, *wire_of(RULED, 1, (1, 2, 1))), (0,))
        self.assertEqual(self.store.read("b", 23), (1, 2, 1))
        self.assertEqual(self.heard(2, 2, 23, *wire_of(RULED, 2, (5, ()))), (0,))
        self.assertEqual(self.store.read("c", 23), (5, ()))
        self.assertEqual(self.store.read("b", 23), (2, 2, 1))

    def test_the_rest_is_not_kept(self):
        rest = ((99, (1, 2)),)
        self.assertEqual(self.heard(1, 2, 3, *wire_of(RULED, 1, (1, 1, 0), rest)), (0,))
        self.assertEqual(self.heard(1, 1, 3), (0,) + wire_of(RULED, 1, (1, 1, 0)))

    def test_reads(self):
        self.assertEqual(self.heard(1, 1, 3), (1,))
        self.store.put("c", 3, (4, (1,)))
        self.assertEqual(self.heard(1, 1, 3), (0,) + wire_of(RULED, 1, self.store.read("b", 3)))
        self.assertEqual(self.heard(2, 1, 3), (0,) + wire_of(RULED, 2, (4, (1,))))
        # What follows the key does not matter.
        self.assertEqual(self.heard(2, 1, 3, 0, 0, 0), (0,) + wire_of(RULED, 2, (4, (1,))))
        self.assertEqual(self.heard(2, 1, 4, 1), (1,))

    def test_drops(self):
        self.store.put("c", 3, (4, (1,)))
        self.assertEqual(self.heard(1, 3, 3, 9, 9), (0,))
        self.assertEqual(self.store.present_keys(), ())
        self.assertEqual(self.heard(1, 3, 3), (1,))
        self.assertEqual(self.heard(2, 3, 23), (1,))
        # Both are done as deals: the page of key 23 is of the store's epoch now.
        self.assertEqual([block[0] for block in self.store.disk.blocks[1:7]], [3, 0, 0, 0, 0, 3])

    def test_reads_and_refused_letters_change_the_session_block_alone(self):
        self.store.put("c", 3, (4, (1,)))
        for told in ((1, 1, 3), (1, 1, 4), (0, 1, 3), (1, 9, 3), (1, 2, 3, 0), (1, 2, 3, *wire_of(RULED, 1, (2, 1, 1)))):
            before = self.store.disk.blocks
            self.heard(*told)
            after = self.store.disk.blocks
            self.assertEqual([number for number in range(32) if before[number] != after[number]], [10])
            self.assertEqual([block[0] for block in after[1:7]], [3, 0, 0, 0, 0, 0])

    def test_long_letters(self):
        tail = wire_of(RULED, 1, (0, 1, 1), ((99, (7,) * 180),))
        letter = (3, 0, 1, 1, 2, 8) + tail
        self.assertLessEqual(len(letter), 200)
        self.assertEqual(self.service.hear(letter), (3, 0, 1, 0))
        self.assertEqual(self.service.hear((3, 0, 2, 1, 1, 8) + (9,) * 194), (3, 0, 2, 0) + wire_of(RULED, 1, (0, 1, 1)))


class Sessions(unittest.TestCase):

    def test_the_session_blocks(self):
        store = new_store(LINE)
        service = Service(store)
        service.hear((0, 0, 1, 0, 2, 5, 1, 1, 2))
        service.hear((3, 255, 255, 0, 1, 5))
        service.hear((2, 1, 0, 7, 1, 5))
        self.assertEqual(store.disk.blocks[7:11], ((0, 0, 1, 0), (), (2, 1, 0, 3), (3, 255, 255, 0, 1, 1, 2)))
        is_at_rest_disk(self, store, ((0, 0, 1, 0), (), (2, 1, 0, 3), (3, 255, 255, 0, 1, 1, 2)))
        service.hear((2, 1, 1, 0, 3, 5))
        self.assertEqual(store.session(2), (2, 1, 1, 0))
        self.assertEqual(service.hear((3, 255, 255, 0, 1, 5)), (3, 255, 255, 0, 1, 1, 2))

    def test_two_services_on_one_store(self):
        store = new_store(LINE)
        one, two = Service(store), Service(store)
        self.assertEqual(one.hear((1, 0, 1, 0, 2, 5, 1, 1, 2)), (1, 0, 1, 0))
        self.assertEqual(two.hear((1, 0, 1, 0, 2, 5, 1, 1, 0)), (1, 0, 1, 0))
        self.assertEqual(two.hear((1, 0, 2, 0, 1, 5)), (1, 0, 2, 0, 1, 1, 2))
        self.assertEqual(one.hear((1, 0, 1, 0, 1, 5)), ())


class Compared(unittest.TestCase):

    def test_with_a_hall(self):
        statuses = set()
        for seed in range(8):
            for house in store_houses() + [WORDS]:
                rng = some_rng("service", seed)
                hall, store = hall_and_store(rng, house, 5)
                service = Service(store)
                numbers = [0] * 4
                sessions = [()] * 4
                for _ in range(25):
                    if rng.random() < 0.08 and hall.epoch + 1 < len(house.events):
                        hall.go_on()
                        store.go_on()
                    client = rng.randrange(4)
                    number = numbers[client] + rng.choice((0, 1, 1, 1, 2, 300, -1))
                    letter = some_letter(rng, hall, client, max(0, number))
                    if number <= 0 or number < numbers[client]:
                        own = ()
                    elif number == numbers[client]:
                        own = sessions[client]
                    else:
                        own = letter[:3] + heard_in_hall(hall, letter)
                        numbers[client], sessions[client] = number, own
                        statuses.add((letter[4] if letter[4] in (1, 2, 3) else 0, own[3]))
                    self.assertEqual(service.hear(letter), own, letter)
                    self.assertEqual(store.disk.blocks[7:11], tuple(sessions))
                    self.assertEqual(store.present_keys(), hall.present_keys())
        self.assertGreaterEqual(statuses, {(1, 0), (1, 1), (1, 3), (1, 4), (2, 0), (2, 3), (2, 4), (2, 5), (2, 6), (3, 0), (3, 1), (3, 3), (3, 4), (0, 4)})


class CutWhileHearing(unittest.TestCase):

    def test_cut_at_each_write(self):
        """Opened again, the letter was heard or not; heard again it gets the same answer as if it had been heard once."""
        writes = set()
        for house in store_houses(14) + [PAIR, RULED]:
            rng = some_rng("cut")
            hall, store = hall_and_store(rng, house, 5)
            for number in range(1, 7):
                letter = some_letter(rng, hall, 1, number)
                blocks = store.disk.blocks
                answer = letter[:3] + heard_in_hall(hall, letter)
                cuts, after = cut_everywhere(lambda store: Service(store).hear(letter), blocks, lambda blocks, room: opened(house, blocks, room))
                writes.add(len(cuts))
                for cut in cuts:
                    again = opened(house, cut)
                    self.assertIn(again.disk.blocks, (blocks, after))
                    self.assertEqual(Service(again).hear(letter), answer)
                    self.assertEqual(again.disk.blocks, after)
                    self.assertEqual(Service(again).hear(letter), answer)
                    self.assertEqual(again.disk.blocks, after)
                self.assertEqual(Service(store).hear(letter), answer)
                self.assertEqual(store.disk.blocks, after)
        self.assertGreater(max(writes), 1)
        self.assertIn(1, writes)

    def test_the_same_letter_needs_no_room(self):
        store = new_store(LINE)
        Service(store).hear((1, 0, 1, 0, 2, 5, 1, 1, 2))
        quiet = Service(opened(LINE, store.disk.blocks, 0))
        self.assertEqual(quiet.hear((1, 0, 1, 0, 2, 5, 1, 1, 2)), (1, 0, 1, 0))
        with self.assertRaises(Cut):
            quiet.hear((1, 0, 2, 0, 1, 5))
        self.assertEqual(store.disk.blocks[8], (1, 0, 1, 0))


class Turns(unittest.TestCase):

    def test_services_by_turns(self):
        """Services on stores of several houses do not see each other's letters."""
        houses = [LINE, PAIR, RULED, WORDS, LINE]
        rng = some_rng("turns")
        plans = []
        for house in houses:
            hall, _ = hall_and_store(rng, house, 0)
            plans.append([some_letter(rng, hall, rng.randrange(4), number) for number in range(1, 15)])
        alone = [[Service(store).hear(letter) for letter in plan] for store, plan in zip(map(new_store, houses), plans)]
        services = [Service(new_store(house)) for house in houses]
        for place, at in itertools.product(range(14), range(5)):
            self.assertEqual(services[at].hear(plans[at][place]), alone[at][place])


if __name__ == "__main__":
    unittest.main()
