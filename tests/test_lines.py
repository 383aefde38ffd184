"""Clients and the service through a line that loses, doubles, delays and reorders: promises [57], [58] and [59] together."""

import unittest

from kept import PAIR, RULED, WORDS, lets_of, new_store, opened, some_rng, store_houses
from small import LINE
from test_service import heard_in_hall

from telltrove.clients import Client
from telltrove.errors import Cut
from telltrove.forms import leaves_of, whole_of
from telltrove.hall import Hall
from telltrove.kinds import size_of, value_at
from telltrove.service import Service
from telltrove.wires import read_wire


def told_by_answer(house, letter, told):
    """What a client should hear: from a letter, and the status and what follows it."""
    if told[0] == 0 and letter[4] == 1:
        return "value", read_wire(house, letter[3], told[1:])[0]
    return {0: ("done",), 1: ("absent",)}.get(told[0], ("refused", told[0]))


def any_whole(rng, form):
    """A whole, let or not."""
    return whole_of(form, tuple(value_at(kind, rng.randrange(min(size_of(kind), 50))) for _, kind in leaves_of(form)))


class World:
    """A house, its hall, and a service with clients behind a bad line."""

    def __init__(self, test, rng, house, cuts):
        self.test, self.rng, self.house, self.cuts = test, rng, house, cuts
        self.hall = Hall(house)
        self.store = new_store(house)
        self.versions = [rng.randrange(len(house.names)) for _ in range(4)]
        self.clients = [Client(house, number, house.names[version]) for number, version in enumerate(self.versions)]
        # On the line: letters, and answers with the client that they go to, or another one.
        self.letters = []
        self.answers = []
        # What the hall told when the letter was heard first, by client and number; the last number that was heard.
        self.told = {}
        self.last = [0] * 4
        self.heard = []
        # Letters, by their client and number, to which the client has heard the answer.
        self.answered = set()
        self.counts = {}

    def count(self, word):
        self.counts[word] = self.counts.get(word, 0) + 1

    def ask(self, client):
        choice = self.rng.random()
        key = self.rng.choice((0, 1, 5, 22, 23, 24)) if self.rng.random() < 0.2 else self.rng.randrange(4)
        if choice < 0.4:
            letter = client.ask_read(key)
        elif choice < 0.85:
            version = self.versions[self.clients.index(client)]
            is_let = self.rng.random() < 0.8
            whole = self.rng.choice(lets_of(self.house)[version]) if is_let else any_whole(self.rng, self.house.forms[version])
            letter = client.ask_put(key, whole)
        else:
            letter = client.ask_drop(key)
        self.letters.append(letter)
        self.test.assertEqual(client.again(), letter)

    def hear_letter(self):
        """The service hears a letter of the line; it can be cut, and then the line still has the letter, or has lost it."""
        at = self.rng.randrange(len(self.letters))
        letter = self.letters[at]
        if self.rng.random() < 0.7:
            del self.letters[at]
        else:
            self.count("doubled letter")
        client, number = letter[0], 256 * letter[1] + letter[2]
        own = ()
        if number > self.last[client]:
            # If it is cut it is heard or not, so the hall does it when the service has done it.
            before = self.hall.state
            own = letter[:3] + heard_in_hall(self.hall, letter)
            if self.cuts and self.rng.random() < 0.4 and self.cut(letter, own):
                self.hall.state = before
                return
            self.last[client] = number
            self.told[client, number] = own[3:]
            self.heard.append((client, number))
        elif number == self.last[client]:
            own = letter[:3] + self.told[client, number]
            self.count("again")
        else:
            self.count("late letter")
        answer = Service(self.store).hear(letter)
        self.test.assertEqual(answer, own)
        self.answers.append((client, answer))

    def cut(self, letter, own):
        """Hears a letter with little room; tells whether it was not heard. The store is opened again."""
        cut = opened(self.house, self.store.disk.blocks, self.rng.randrange(7))
        try:
            Service(cut).hear(letter)
        except Cut:
            self.count("cut")
        self.store = opened(self.house, cut.disk.blocks)
        return self.store.session(letter[0]) != own

    def hear_answer(self):
        at = self.rng.randrange(len(self.answers))
        number, answer = self.answers[at]
        if self.rng.random() < 0.6:
            del self.answers[at]
        if self.rng.random() < 0.1:
            number = self.rng.randrange(4)
            self.count("other client")
        client = self.clients[number]
        own = None
        letter = client.again()
        if answer and answer[:3] == letter[:3] and letter[:3] not in self.answered:
            own = told_by_answer(self.house, letter, self.told[number, 256 * letter[1] + letter[2]])
            self.answered.add(letter[:3])
            self.count(own[0])
        else:
            self.count("passed over")
        self.test.assertEqual(client.hear(answer), own)

    def step(self):
        choice = self.rng.random()
        if choice < 0.01 and self.hall.epoch + 1 < len(self.house.events):
            self.hall.go_on()
            self.store.go_on()
        elif choice < 0.05:
            self.store.batch(self.rng.randrange(3))
        elif choice < 0.2:
            self.ask(self.rng.choice(self.clients))
        elif choice < 0.3:
            again = self.rng.choice(self.clients).again()
            if again:
                self.letters.append(again)
        elif choice < 0.6 and self.letters:
            self.hear_letter()
        elif choice < 0.9 and self.answers:
            self.hear_answer()
        elif choice < 0.95 and self.letters:
            del self.letters[self.rng.randrange(len(self.letters))]
        elif self.answers:
            del self.answers[self.rng.randrange(len(self.answers))]

    def same(self):
        """The store is what the hall is; each letter was heard at most once, and those of a client in order."""
        test = self.test
        test.assertEqual(self.store.present_keys(), self.hall.present_keys())
        for version in self.house.living(self.hall.epoch):
            name = self.house.names[version]
            for key in range(24):
                test.assertEqual(self.store.read(name, key), self.hall.read(name, key))
        test.assertEqual(len(set(self.heard)), len(self.heard))
        for number in range(4):
            own = [letter for client, letter in self.heard if client == number]
            test.assertEqual(own, sorted(own))


class Lines(unittest.TestCase):

    def run_worlds(self, cuts):
        counts = {}
        for seed in range(2):
            for house in store_houses(14) + [PAIR, RULED, WORDS]:
                world = World(self, some_rng("lines", seed, cuts), house, cuts)
                for at in range(700):
                    world.step()
                    if at % 50 == 0:
                        world.same()
                world.same()
                for word, many in world.counts.items():
                    counts[word] = counts.get(word, 0) + many
        return counts

    def test_compared_with_a_hall(self):
        counts = self.run_worlds(False)
        for word in ("value", "absent", "done", "refused", "again", "late letter", "doubled letter", "other client", "passed over"):
            self.assertGreater(counts.get(word, 0), 30, word)

    def test_with_a_service_that_is_cut(self):
        counts = self.run_worlds(True)
        for word in ("value", "absent", "done", "refused", "again", "late letter", "cut"):
            self.assertGreater(counts.get(word, 0), 30, word)

    def test_until_it_is_answered(self):
        """A client that says its letter until it hears an answer is done once, though nine of ten letters and answers are lost."""
        for seed in range(10):
            rng = some_rng("until", seed)
            store = new_store(LINE)
            service = Service(store)
            clients = [Client(LINE, 0, "a"), Client(LINE, 3, "a")]
            value = {}
            for _ in range(12):
                client = rng.choice(clients)
                key = rng.randrange(3)
                asked = rng.choice(("read", "put", "drop"))
                own = {"read": ("value", value.get(key)) if key in value else ("absent",), "put": ("done",),
                       "drop": ("done",) if key in value else ("absent",)}[asked]
                if asked == "read":
                    client.ask_read(key)
                elif asked == "put":
                    value[key] = (rng.randrange(3),)
                    client.ask_put(key, value[key])
                else:
                    value.pop(key, None)
                    client.ask_drop(key)
                told = None
                while told is None:
                    if rng.random() < 0.1:
                        answer = service.hear(client.again())
                        if rng.random() < 0.1:
                            told = client.hear(answer)
                self.assertEqual(told, own)
                self.assertEqual(store.present_keys(), tuple(sorted(value)))


if __name__ == "__main__":
    unittest.main()
