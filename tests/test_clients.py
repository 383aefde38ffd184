"""Clients: promises [57] and [59]."""

import itertools
import unittest

from kept import PAIR, RULED, WORDS, lets_of, some_rng, store_houses
from small import LINE, house_of

from telltrove.clients import Client
from telltrove.wires import wire_of


class Letters(unittest.TestCase):

    def test_the_documents_letter(self):
        self.assertEqual(Client(LINE, 1, "a").ask_put(5, (2,)), (1, 0, 1, 0, 2, 5, 1, 1, 2))

    def test_by_hand(self):
        client = Client(LINE, 3, "b")
        self.assertEqual(client.again(), ())
        self.assertEqual(client.ask_read(23), (3, 0, 1, 1, 1, 23))
        self.assertEqual(client.again(), (3, 0, 1, 1, 1, 23))
        self.assertEqual(client.ask_drop(0), (3, 0, 2, 1, 3, 0))
        self.assertEqual(client.ask_put(7, (1,)), (3, 0, 3, 1, 2, 7, 2, 1, 1))
        for _ in range(2):
            self.assertEqual(client.again(), (3, 0, 3, 1, 2, 7, 2, 1, 1))
        self.assertEqual(client.ask_read(0), (3, 0, 4, 1, 1, 0))

    def test_any_byte_can_be_the_key(self):
        client = Client(LINE, 0, "c")
        self.assertEqual(client.ask_read(24), (0, 0, 1, 2, 1, 24))
        self.assertEqual(client.ask_put(255, (2,)), (0, 0, 2, 2, 2, 255, 3, 1, 2))
        self.assertEqual(client.ask_drop(200), (0, 0, 3, 2, 3, 200))

    def test_wholes_that_are_not_let(self):
        client = Client(RULED, 2, "a")
        self.assertEqual(client.ask_put(1, (2, 0, (1,))), (2, 0, 1, 0, 2, 1) + wire_of(RULED, 0, (2, 0, (1,))))

    def test_numbers_ascend(self):
        client = Client(LINE, 0, "a")
        for number in range(1, 1030):
            letter = (client.ask_read, client.ask_drop)[number % 2](number % 24)
            self.assertEqual(letter[:3], (0, number // 256, number % 256))
            self.assertEqual(client.again(), letter)
        for number in range(1030, 65536):
            client.ask_read(0)
        self.assertEqual(client.again(), (0, 255, 255, 0, 1, 0))

    def test_wires_of_all_versions(self):
        rng = some_rng("letters")
        for house in store_houses() + [WORDS]:
            for version, name in enumerate(house.names):
                client = Client(house, rng.randrange(4), name)
                whole = rng.choice(lets_of(house)[version])
                self.assertEqual(client.ask_put(3, whole)[3:], (version, 2, 3) + wire_of(house, version, whole))

    def test_a_client_works_for_its_version_for_ever(self):
        """Also for one that comes later or is retired."""
        for name, version in (("a", 0), ("b", 1), ("c", 2)):
            self.assertEqual(Client(PAIR, 0, name).ask_read(1), (0, 0, 1, version, 1, 1))


class Answers(unittest.TestCase):

    def test_each_status(self):
        client = Client(LINE, 1, "b")
        client.ask_read(5)
        self.assertEqual(client.hear((1, 0, 1, 0, 2, 1, 1)), ("value", (1,)))
        client.ask_read(5)
        self.assertEqual(client.hear((1, 0, 2, 1)), ("absent",))
        client.ask_put(5, (1,))
        self.assertEqual(client.hear((1, 0, 3, 0)), ("done",))
        client.ask_drop(5)
        self.assertEqual(client.hear((1, 0, 4, 0)), ("done",))
        client.ask_drop(5)
        self.assertEqual(client.hear((1, 0, 5, 1)), ("absent",))
        number = 5
        for status, ask in itertools.product((3, 4, 5, 6), (client.ask_read, client.ask_drop, lambda key: client.ask_put(key, (0,)))):
            number += 1
            ask(5)
            self.assertEqual(client.hear((1, 0, number, status)), ("refused", status))

    def test_wholes_of_several_leaves(self):
        for house in (PAIR, RULED, WORDS):
            for version, name in enumerate(house.names):
                client = Client(house, 0, name)
                for number, whole in enumerate(lets_of(house)[version][:200]):
                    client.ask_read(9)
                    answer = (0, (number + 1) // 256, (number + 1) % 256, 0) + wire_of(house, version, whole)
                    self.assertEqual(client.hear(answer), ("value", whole))

    def test_a_whole_that_looks_like_nothing(self):
        house = house_of("open a { e : rec { } ; }")
        client = Client(house, 0, "a")
        client.ask_read(0)
        self.assertEqual(client.hear((0, 0, 1, 0)), ("value", ((),)))

    def test_answers_that_are_passed_over(self):
        client = Client(LINE, 1, "a")
        for answer in ((), (1, 0, 0, 0), (1, 0, 1, 0), (0, 0, 0, 1)):
            self.assertIsNone(client.hear(answer))
        client.ask_drop(5)
        client.ask_drop(6)
        # Late, too early, of other clients, none.
        for answer in ((1, 0, 1, 0), (1, 0, 3, 0), (1, 2, 0, 0), (1, 1, 2, 0), (0, 0, 2, 0), (2, 0, 2, 0), (3, 0, 2, 1), ()):
            self.assertIsNone(client.hear(answer))
        self.assertEqual(client.hear((1, 0, 2, 0)), ("done",))
        # Doubled, also with another status.
        for answer in ((1, 0, 2, 0), (1, 0, 2, 0), (1, 0, 2, 3), (), (1, 0, 1, 0)):
            self.assertIsNone(client.hear(answer))
        self.assertEqual(client.again(), (1, 0, 2, 0, 3, 6))
        client.ask_drop(7)
        self.assertIsNone(client.hear((1, 0, 2, 0)))
        self.assertEqual(client.hear((1, 0, 3, 1)), ("absent",))

    def test_high_numbers(self):
        client = Client(LINE, 2, "a")
        for _ in range(513):
            client.ask_drop(1)
        for answer in ((2, 0, 1, 0), (2, 1, 2, 0), (2, 1, 1, 0), (2, 2, 2, 0), (2, 2, 0, 0)):
            self.assertIsNone(client.hear(answer))
        self.assertEqual(client.hear((2, 2, 1, 0)), ("done",))

    def test_saying_it_again_changes_nothing(self):
        client = Client(LINE, 0, "a")
        letter = client.ask_read(3)
        self.assertEqual([client.again() for _ in range(3)], [letter] * 3)
        self.assertEqual(client.hear((0, 0, 1, 1)), ("absent",))
        self.assertEqual(client.again(), letter)
        self.assertIsNone(client.hear((0, 0, 1, 1)))

    def test_clients_by_turns(self):
        clients = [Client(LINE, number, name) for number, name in ((0, "a"), (1, "a"), (0, "b"))]
        letters = [client.ask_read(4) for client in clients]
        self.assertEqual(letters, [(0, 0, 1, 0, 1, 4), (1, 0, 1, 0, 1, 4), (0, 0, 1, 1, 1, 4)])
        clients[0].ask_read(5)
        self.assertEqual([client.hear((0, 0, 1, 1)) for client in clients], [None, None, ("absent",)])
        self.assertEqual([client.hear((1, 0, 1, 1)) for client in clients], [None, ("absent",), None])
        self.assertEqual([client.hear((0, 0, 2, 1)) for client in clients], [("absent",), None, None])


if __name__ == "__main__":
    unittest.main()
