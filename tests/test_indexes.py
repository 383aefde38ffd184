"""Indexes: promise [56]."""

import unittest

from kept import RULED, WORDS, answer_of, hall_and_store, new_store, opened, some_deal, some_rng, store_houses
from small import HIDING, LINE, PAIR, house_of, strands_by_links, values_of

from telltrove.asks import ask
from telltrove.errors import Cut, NoIndex, NoVersion, Retired
from telltrove.forms import leaves_of
from telltrove.indexes import Index

ODD_VALUES = (True, False, None, "x", "", (), (0,), (True,), ((),), -1, 99, 10 ** 9, ("x", 1), ("x", True), (None,), ((((),),),))


def strand_of(house, epoch, version, path):
    strand, = [strand for strand in strands_by_links(house, epoch) if path in strand[version]]
    return strand


def same_found(test, store, index, node, values=True):
    """The index answers like questions, for all leaves and values; for leaves of other strands it raises NoIndex."""
    house, epoch = store.tables.house, store.epoch
    strand = strand_of(house, epoch, *node)
    for version in house.living(epoch):
        name = house.names[version]
        for path, kind in leaves_of(house.forms[version]):
            if path not in strand[version]:
                with test.assertRaises(NoIndex) as caught:
                    index.found(name, path, values_of(kind)[0])
                test.assertEqual(caught.exception.path, path)
            elif values:
                for value in values_of(kind):
                    test.assertEqual(index.found(name, path, value), ask(store, name, ("keys", ("is", path, value))))


class Model:
    """Which pages are covered: the blocks that were last gone through."""

    def __init__(self, store):
        self.store = store
        self.gone = [None] * 6

    def covered(self):
        blocks = self.store.disk.blocks
        return tuple(page for page in range(6) if blocks[1 + page] == self.gone[page] and blocks[1 + page][0] == self.store.epoch)

    def step(self, index, test):
        """A step of the index; only a page of an elder epoch is written, and just that one."""
        before = self.store.disk.blocks
        open_pages = [page for page in range(6) if page not in self.covered()]
        left = index.step()
        test.assertEqual(left, max(0, len(open_pages) - 1))
        changed = [number for number in range(32) if self.store.disk.blocks[number] != before[number]]
        if open_pages:
            page = open_pages[0]
            test.assertEqual(changed, [1 + page] if before[1 + page][0] < self.store.epoch else [])
            self.gone[page] = self.store.disk.blocks[1 + page]
        else:
            test.assertEqual(changed, [])
        test.assertEqual(index.covered(), self.covered())


class ByHand(unittest.TestCase):

    def test_steps(self):
        store = new_store(LINE)
        store.put("a", 5, (2,))
        store.put("a", 6, (1,))
        store.put("a", 20, (2,))
        index = Index(store, "a", "n")
        self.assertEqual(index.covered(), ())
        self.assertEqual(index.found("a", "n", 2), (5, 20))
        for left in (5, 4, 3, 2, 1, 0, 0, 0):
            self.assertEqual(index.step(), left)
            self.assertEqual(index.covered(), tuple(range(6 - left)))
            self.assertEqual(index.found("a", "n", 2), (5, 20))
            self.assertEqual(index.found("a", "n", 1), (6,))
            self.assertEqual(index.found("a", "n", 0), ())

    def test_covered_pages_that_change(self):
        store = new_store(LINE)
        store.put("a", 5, (2,))
        index = Index(store, "a", "n")
        for _ in range(6):
            index.step()
        store.put("a", 5, (1,))
        self.assertEqual(index.covered(), (0, 2, 3, 4, 5))
        self.assertEqual(index.found("a", "n", 2), ())
        self.assertEqual(index.found("a", "n", 1), (5,))
        # The block is again what the index has last gone through.
        store.put("a", 5, (2,))
        self.assertEqual(index.covered(), (0, 1, 2, 3, 4, 5))
        self.assertEqual(index.found("a", "n", 2), (5,))
        store.drop("a", 5)
        store.put("a", 23, (0,))
        self.assertEqual(index.covered(), (0, 2, 3, 4))
        self.assertEqual(index.step(), 1)
        self.assertEqual(index.covered(), (0, 1, 2, 3, 4))
        self.assertEqual(index.found("a", "n", 0), (23,))

    def test_other_epochs(self):
        store = new_store(LINE)
        store.put("a", 5, (2,))
        store.put("a", 9, (1,))
        index = Index(store, "a", "n")
        for _ in range(6):
            index.step()
        store.go_on()
        self.assertEqual(index.covered(), ())
        self.assertEqual(index.found("b", "m", 1), (5, 9))
        self.assertEqual(index.found("a", "n", 2), (5,))
        blocks = store.disk.blocks
        self.assertEqual(index.step(), 5)
        self.assertEqual(store.disk.blocks, blocks[:1] + ((1, 0, 0, 0, 0),) + blocks[2:])
        store.batch(3)
        # Recoded by a batch, pages are not covered before the index has gone through them.
        self.assertEqual(index.covered(), (0,))
        blocks = store.disk.blocks
        for left in (4, 3, 2):
            self.assertEqual(index.step(), left)
        self.assertEqual(store.disk.blocks, blocks)
        self.assertEqual(index.step(), 1)
        self.assertNotEqual(store.disk.blocks, blocks)
        self.assertEqual(index.covered(), (0, 1, 2, 3, 4))
        self.assertEqual(index.found("b", "m", 1), (5, 9))

    def test_a_strand_that_grows(self):
        store = new_store(PAIR)
        store.put("a", 2, (2, (1,), (), ("y",)))
        store.put("a", 3, (0, (), (), ("x",)))
        index = Index(store, "a", "n")
        self.assertEqual(index.found("a", "n", 2), (2,))
        with self.assertRaises(NoIndex):
            index.found("a", "o", (1,))
        for _ in range(3):
            store.go_on()
        # n and z of b are in one strand now, and n of c with them.
        self.assertEqual(index.found("b", "n", 1), (2,))
        self.assertEqual(index.found("b", "z", 1), (2, 3))
        self.assertEqual(index.found("c", "n", 1), (2, 3))
        with self.assertRaises(NoIndex):
            index.found("b", "p", ())
        other = Index(store, "a", "o")
        self.assertEqual(other.found("b", "p", (1,)), (2,))
        with self.assertRaises(NoIndex):
            other.found("c", "n", 1)

    def test_an_index_for_a_retired_version(self):
        store = new_store(LINE)
        store.put("a", 7, (1,))
        for _ in range(3):
            store.go_on()
        index = Index(store, "c", "k")
        self.assertEqual(index.found("a", "n", 1), (7,))
        self.assertEqual(index.found("b", "m", 1), (7,))
        self.assertEqual(index.step(), 5)
        with self.assertRaises(Retired):
            index.found("c", "k", 1)


class Errors(unittest.TestCase):

    def test_the_order(self):
        store = new_store(RULED)
        store.put("a", 1, (1, 2, (1,)))
        index = Index(store, "a", "o")
        for path in ("n", "m", "zz", "", "o.x", "x"):
            with self.assertRaises(NoIndex) as caught:
                index.found("a", path, None)
            self.assertEqual(caught.exception.path, path)
        for name, path in (("b", "o"), ("b", "zz"), ("zz", "o"), ("d", "q")):
            with self.assertRaises(NoVersion) as caught:
                index.found(name, path, None)
            self.assertEqual(caught.exception.name, name)
        for _ in range(3):
            store.go_on()
        for path in ("o", "n", "zz"):
            with self.assertRaises(Retired) as caught:
                index.found("a", path, None)
            self.assertEqual(caught.exception.name, "a")
        self.assertEqual(index.found("b", "o", 1), (1,))
        self.assertEqual(index.found("c", "p", (1,)), (1,))
        with self.assertRaises(NoIndex):
            # A leaf of another version's form.
            index.found("b", "p", (1,))
        with self.assertRaises(NoVersion):
            index.found("d", "q", 1)

    def test_values_that_are_none_of_the_leaf(self):
        for house in (LINE, PAIR, RULED, WORDS):
            rng = some_rng("odd")
            hall, store = hall_and_store(rng, house, 10)
            for version in house.living(hall.epoch):
                name = house.names[version]
                for path, kind in leaves_of(house.forms[version]):
                    index = Index(store, name, path)
                    for steps in range(3):
                        for value in ODD_VALUES:
                            own = ask(store, name, ("keys", ("is", path, value))) if repr(value) in map(repr, values_of(kind)) else ()
                            self.assertEqual(index.found(name, path, value), own, (path, value))
                        for _ in range(3):
                            index.step()

    def test_cut(self):
        store = new_store(LINE)
        store.put("a", 5, (2,))
        store.go_on()
        store.batch(1)
        quiet = opened(LINE, store.disk.blocks, 0)
        index = Index(quiet, "b", "m")
        self.assertEqual(index.found("a", "n", 2), (5,))
        # The first page is of the store's epoch; the second one would have to be recoded.
        self.assertEqual(index.step(), 5)
        with self.assertRaises(Cut):
            index.step()
        self.assertEqual(quiet.disk.blocks, store.disk.blocks)


class Compared(unittest.TestCase):

    def test_while_the_store_goes_on(self):
        partly = 0
        for seed in range(2):
            for house in store_houses() + [WORDS]:
                rng = some_rng("indexes", seed)
                hall, store = hall_and_store(rng, house, 4)
                indexes = []
                for _ in range(12):
                    choice = rng.random()
                    if choice < 0.2 and hall.epoch + 1 < len(house.events):
                        hall.go_on()
                        store.go_on()
                    elif choice < 0.35:
                        store.batch(rng.randrange(3))
                    elif choice < 0.6:
                        deeds = some_deal(rng, house, hall.epoch, most=3)
                        hall.deal(deeds)
                        store.deal(deeds)
                    elif choice < 0.7 and len(indexes) < 2:
                        version = rng.randrange(house.present(hall.epoch))
                        leaves = leaves_of(house.forms[version])
                        if leaves:
                            path = rng.choice(leaves)[0]
                            indexes.append((Index(store, house.names[version], path), Model(store), (version, path)))
                    for index, model, node in indexes:
                        for _ in range(rng.randrange(3)):
                            model.step(index, self)
                        self.assertEqual(index.covered(), model.covered())
                        partly += 0 < len(index.covered()) < 6
                        blocks = store.disk.blocks
                        same_found(self, store, index, node, rng.random() < 0.5)
                        self.assertEqual(store.disk.blocks, blocks)
                self.assertEqual(store.present_keys(), hall.present_keys())
        self.assertGreater(partly, 80)

    def test_found_writes_nothing(self):
        for house in store_houses(12) + [WORDS]:
            rng = some_rng("quiet")
            hall, store = hall_and_store(rng, house, 8)
            quiet = opened(house, store.disk.blocks, 0)
            for version in range(house.present(hall.epoch)):
                for path, _ in leaves_of(house.forms[version]):
                    index = Index(quiet, house.names[version], path)
                    same_found(self, quiet, index, (version, path))
                    self.assertEqual(index.covered(), ())
            self.assertEqual(quiet.disk.blocks, store.disk.blocks)

    def test_indexes_by_turns(self):
        """Two indexes of one store and one of another store of the same house do not see each other."""
        house = house_of("open a { n : num 0 .. 2 ; m : num 0 .. 2 ; } add b from a { n : num 0 .. 2 ; step n to n by rank ; step m to none by apart 0 [ ] ; }")
        one, two = new_store(house), new_store(house)
        one.put("a", 1, (0, 1))
        two.put("a", 2, (0, 1))
        first, second, third = Index(one, "a", "n"), Index(one, "a", "m"), Index(two, "a", "n")
        first.step()
        self.assertEqual([index.covered() for index in (first, second, third)], [(0,), (), ()])
        second.step()
        third.step()
        self.assertEqual([index.found("a", path, value) for index, path, value in ((first, "n", 0), (second, "m", 1), (third, "n", 0))], [(1,), (1,), (2,)])
        one.go_on()
        first.step()
        # The page was recoded by the first index; the second one has not gone through it again.
        self.assertEqual([index.covered() for index in (first, second, third)], [(0,), (), (0,)])
        self.assertEqual(second.found("a", "m", 1), (1,))
        self.assertEqual(first.found("b", "n", 0), (1,))
        self.assertEqual(answer_of(third.found, "b", "n", 0), "NoVersion{'name': 'b'}")

    def test_what_is_hidden(self):
        """Two papers that show the same value have unlike codes."""
        store = new_store(HIDING)
        store.go_on()
        store.put("a", 4, (0,))
        store.put("b", 5, (2,))
        store.go_on()
        store.go_on()
        index = Index(store, "c", "k")
        for _ in range(7):
            self.assertEqual(index.found("a", "n", 0), (4, 5))
            self.assertEqual(index.found("c", "k", 0), (4, 5))
            index.step()


if __name__ == "__main__":
    unittest.main()
