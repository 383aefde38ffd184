"""Questions to a store: promise [53]."""

import unittest

from kept import RULED, WORDS, hall_and_store, new_store, opened, some_formula, some_rng, store_houses, words_in
from small import LINE, PAIR, house_of, values_of

from telltrove.asks import ask
from telltrove.errors import NoVersion, Retired
from telltrove.forms import flat_of, leaves_of
from telltrove.formulas import holds


def asked_in_hall(hall, name, question):
    """The answer, from what a hall shows."""
    form = hall.house.forms[hall.house.names.index(name)]
    paths = [path for path, _ in leaves_of(form)]
    flats = {key: flat_of(form, hall.read(name, key)) for key in hall.present_keys()}
    hits = [key for key, flat in flats.items() if holds(question[-1], paths, flat)]
    if question[0] == "keys":
        return tuple(sorted(hits))
    if question[0] == "many":
        return len(hits)
    values = sorted({flats[key][paths.index(question[1])] for key in hits})
    if question[0] == "values":
        return tuple(values)
    return min(values, default=None)


class ByHand(unittest.TestCase):

    def setUp(self):
        self.store = new_store(LINE)
        self.store.put("a", 5, (2,))
        self.store.put("a", 23, (0,))
        self.store.put("a", 4, (1,))

    def test_the_four_questions(self):
        yes = ("most", "n", 9)
        self.assertEqual(ask(self.store, "a", ("keys", yes)), (4, 5, 23))
        self.assertEqual(ask(self.store, "a", ("many", yes)), 3)
        self.assertEqual(ask(self.store, "a", ("values", "n", yes)), (0, 1, 2))
        self.assertEqual(ask(self.store, "a", ("least", "n", yes)), 0)
        two = ("is", "n", 2)
        self.assertEqual(ask(self.store, "a", ("keys", two)), (5,))
        self.assertEqual(ask(self.store, "a", ("many", two)), 1)
        self.assertEqual(ask(self.store, "a", ("values", "n", two)), (2,))
        self.assertEqual(ask(self.store, "a", ("least", "n", two)), 2)

    def test_no_hits(self):
        no = ("not", ("most", "n", 2))
        self.assertEqual(ask(self.store, "a", ("keys", no)), ())
        self.assertEqual(repr(ask(self.store, "a", ("many", no))), "0")
        self.assertEqual(ask(self.store, "a", ("values", "n", no)), ())
        self.assertIsNone(ask(self.store, "a", ("least", "n", no)))
        empty = new_store(LINE)
        self.assertEqual(ask(empty, "a", ("keys", ("most", "n", 2))), ())
        self.assertIsNone(ask(empty, "a", ("least", "n", ("most", "n", 2))))

    def test_the_documents_question(self):
        store = new_store(LINE)
        store.put("a", 5, (2,))
        store.go_on()
        self.assertEqual(ask(store, "b", ("values", "m", ("most", "m", 1))), (1,))

    def test_pages_of_unlike_epochs(self):
        self.store.go_on()
        self.store.put("b", 6, (1,))
        self.store.go_on()
        self.store.put("c", 0, (2,))
        self.store.drop("c", 23)
        self.assertEqual([block[0] for block in self.store.disk.blocks[1:7]], [2, 1, 0, 0, 0, 2])
        self.assertEqual(ask(self.store, "c", ("keys", ("is", "k", 1))), (4, 5, 6))
        self.assertEqual(ask(self.store, "c", ("values", "k", ("most", "k", 2))), (1, 2))
        self.assertEqual(ask(self.store, "a", ("keys", ("is", "n", 1))), (0, 4, 6))
        self.assertEqual(ask(self.store, "a", ("least", "n", ("most", "n", 2))), 1)
        self.assertEqual(ask(self.store, "b", ("many", ("is", "m", 1))), 4)

    def test_least_values_that_look_like_none(self):
        store = new_store(PAIR)
        store.put("a", 2, (1, (), (), ("y",)))
        self.assertEqual(ask(store, "a", ("least", "o", ("is", "n", 1))), ())
        self.assertEqual(ask(store, "a", ("values", "o", ("is", "n", 1))), ((),))
        self.assertEqual(ask(store, "a", ("values", "h.s", ("not", ("has", "o")))), ("y",))
        self.assertEqual(ask(store, "a", ("least", "n", ("is", "o", ()))), 1)

    def test_not_living(self):
        for name in ("b", "c", "zz", ""):
            with self.assertRaises(NoVersion) as caught:
                ask(self.store, name, ("keys", ("most", "n", 1)))
            self.assertEqual(caught.exception.name, name)
        for _ in range(3):
            self.store.go_on()
        with self.assertRaises(Retired) as caught:
            ask(self.store, "c", ("many", ("most", "k", 1)))
        self.assertEqual(caught.exception.name, "c")
        self.assertEqual(ask(self.store, "b", ("many", ("most", "m", 1))), 3)

    def test_a_form_without_leaves_has_no_questions_but_others_go_on(self):
        house = house_of("open a { e : rec { } ; } add b from a { n : num 0 .. 1 ; e : rec { } ; step none to n by apart [ ] 1 ; }")
        store = new_store(house)
        store.put("a", 7, ((),))
        store.go_on()
        self.assertEqual(ask(store, "b", ("values", "n", ("is", "n", 1))), (1,))


class Compared(unittest.TestCase):

    def test_with_a_hall(self):
        words, answers = set(), {"keys": set(), "many": set(), "values": set(), "least": set()}
        for seed in range(3):
            for house in store_houses() + [WORDS]:
                rng = some_rng("asks", seed)
                hall, store = hall_and_store(rng, house, 12)
                quiet = opened(house, store.disk.blocks, 0)
                for _ in range(12):
                    version = rng.choice(house.living(hall.epoch))
                    leaves = leaves_of(house.forms[version])
                    if not leaves:
                        continue
                    formula = some_formula(rng, leaves)
                    words.update(words_in(formula))
                    path = rng.choice(leaves)[0]
                    for question in (("keys", formula), ("many", formula), ("values", path, formula), ("least", path, formula)):
                        own = asked_in_hall(hall, house.names[version], question)
                        self.assertEqual(ask(quiet, house.names[version], question), own)
                        answers[question[0]].add(own if question[0] in ("many", "least") else len(own))
                self.assertEqual(quiet.disk.blocks, store.disk.blocks)
        self.assertEqual(len(words), 10)
        for own in answers.values():
            self.assertGreater(len(own), 2)

    def test_the_same_question_in_unlike_batches(self):
        rng = some_rng("batches")
        for house in store_houses(12) + [RULED, WORDS]:
            hall, store = hall_and_store(rng, house, 8)
            version = house.living(hall.epoch)[0]
            leaves = leaves_of(house.forms[version])
            if not leaves:
                continue
            path, kind = rng.choice(leaves)
            question = ("keys", ("is", path, rng.choice(values_of(kind))))
            own = asked_in_hall(hall, house.names[version], question)
            for _ in range(7):
                self.assertEqual(ask(store, house.names[version], question), own)
                store.batch()


if __name__ == "__main__":
    unittest.main()
