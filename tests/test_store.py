"""Stores that are not cut: promises [49] and [50]."""

import unittest

from kept import (NOTHING, RULED, answer_of, codes_in_hall, hall_and_store, lets_of, new_store, opened, some_deal, some_rng,
                  store_houses, tables_of)
from small import HIDING, LINE, PAIR, house_of

from telltrove.disk import Disk
from telltrove.errors import BadKey, BadValue, LastEpoch, NoVersion, Retired
from telltrove.hall import Hall
from telltrove.pages import page_of, paper_bytes
from telltrove.store import Store
from telltrove.tables import Tables


def is_at_rest_disk(test, store, sessions=((), (), (), ())):
    """Whether a disk is as [49] tells, but for what stands on the pages."""
    blocks = store.disk.blocks
    test.assertEqual(len(blocks), 32)
    test.assertEqual(blocks[0], (store.epoch, 0))
    for page in range(6):
        epoch = blocks[1 + page][0]
        test.assertLessEqual(epoch, store.epoch)
        test.assertEqual(len(blocks[1 + page]), 1 + 4 * paper_bytes(store.tables, epoch))
    test.assertEqual(blocks[7:11], sessions)
    test.assertEqual(blocks[11:], ((),) * 21)


def same_papers(test, hall, store):
    """What a store tells is what the hall tells."""
    house = hall.house
    test.assertEqual(store.epoch, hall.epoch)
    test.assertEqual(store.present_keys(), hall.present_keys())
    for key in range(24):
        test.assertEqual(store.paper(key), codes_in_hall(hall, key))
        for version in house.living(hall.epoch):
            test.assertEqual(store.read(house.names[version], key), hall.read(house.names[version], key))


class New(unittest.TestCase):

    def test_blocks(self):
        for house in store_houses():
            tables = tables_of(house)
            disk = Disk()
            store = Store(tables, disk)
            self.assertIs(store.disk, disk)
            self.assertIs(store.tables, tables)
            self.assertEqual(store.epoch, 0)
            page = (0,) + (0,) * (4 * paper_bytes(tables, 0))
            self.assertEqual(disk.blocks, ((0, 0),) + (page,) * 6 + ((),) * 25)
            self.assertEqual(store.present_keys(), ())
            self.assertTrue(store.at_rest())
            self.assertEqual([store.session(client) for client in range(4)], [()] * 4)
            self.assertEqual([store.paper(key) for key in range(24)], [None] * 24)

    def test_the_documents_page(self):
        store = Store(Tables(LINE), Disk())
        self.assertIsNone(store.put("a", 5, (2,)))
        self.assertEqual(store.disk.blocks, ((0, 0), (0, 0, 0, 0, 0), (0, 0, 3, 0, 0)) + ((0, 0, 0, 0, 0),) * 4 + ((),) * 25)

    def test_opened_again(self):
        rng = some_rng("opened")
        for house in store_houses():
            hall, store = hall_and_store(rng, house)
            store.deal((), (2, (9, 8, 7)))
            blocks = store.disk.blocks
            again = opened(house, blocks, 0)
            self.assertEqual(again.disk.blocks, blocks)
            self.assertEqual(again.epoch, store.epoch)
            self.assertEqual(again.session(2), (9, 8, 7))
            same_papers(self, hall, again)


class Compared(unittest.TestCase):

    def test_with_a_hall(self):
        elder = 0
        for seed in range(4):
            rng = some_rng("hall", seed)
            for house in store_houses():
                hall, store = Hall(house), new_store(house)
                for _ in range(14):
                    choice = rng.random()
                    if choice < 0.25:
                        self.assertEqual(answer_of(store.go_on), answer_of(hall.go_on))
                    elif choice < 0.4:
                        store.batch(rng.randrange(3))
                    elif choice < 0.5:
                        name, key = rng.choice(house.names + ("zz",)), rng.choice((0, 5, 23, 24, -1, True, None, "x", (1,)))
                        self.assertEqual(answer_of(store.drop, name, key), answer_of(hall.drop, name, key))
                        self.assertEqual(answer_of(store.read, name, key), answer_of(hall.read, name, key))
                    else:
                        deeds = some_deal(rng, house, hall.epoch)
                        self.assertEqual(answer_of(store.deal, deeds), answer_of(hall.deal, deeds))
                    elder += not store.at_rest()
                    same_papers(self, hall, store)
                    is_at_rest_disk(self, store)
        self.assertGreater(elder, 300)

    def test_puts_drops_and_reads_alone(self):
        rng = some_rng("alone")
        for house in store_houses():
            hall, store = Hall(house), new_store(house)
            for _ in range(40):
                version = rng.choice(house.living(hall.epoch))
                name, key = house.names[version], rng.randrange(24)
                choice = rng.random()
                if choice < 0.5:
                    whole = rng.choice(lets_of(house)[version])
                    self.assertEqual(answer_of(store.put, name, key, whole), answer_of(hall.put, name, key, whole))
                elif choice < 0.7:
                    told = store.drop(name, key)
                    self.assertIsInstance(told, bool)
                    self.assertIs(told, hall.drop(name, key))
                elif choice < 0.9:
                    self.assertEqual(store.read(name, key), hall.read(name, key))
                else:
                    self.assertEqual(answer_of(store.go_on), answer_of(hall.go_on))
            same_papers(self, hall, store)

    def test_the_line(self):
        store = new_store(LINE)
        store.put("a", 5, (2,))
        store.go_on()
        store.put("b", 5, (1,))
        self.assertEqual(store.read("a", 5), (2,))
        self.assertEqual(store.read("b", 5), (1,))
        self.assertIsNone(store.read("b", 4))
        self.assertEqual(store.present_keys(), (5,))
        self.assertIs(store.drop("b", 5), True)
        self.assertIs(store.drop("b", 5), False)
        self.assertIsNone(store.read("a", 5))


class Refused(unittest.TestCase):

    def test_each_error(self):
        store = new_store(RULED)
        for _ in range(3):
            store.go_on()
        store.put("b", 3, (0, 1, 1))
        store.put("c", 20, (3, ()))
        blocks = store.disk.blocks
        # a is retired, d comes later.
        for deed, error, attributes in (
                (("put", "d", 99, ()), NoVersion, {"name": "d"}), (("drop", "zz", 99), NoVersion, {"name": "zz"}),
                (("put", "a", 99, ()), Retired, {"name": "a"}), (("drop", "a", None), Retired, {"name": "a"}),
                (("put", "b", 24, ()), BadKey, {"key": 24}), (("drop", "b", -1), BadKey, {"key": -1}), (("put", "b", True, (0, 1, 1)), BadKey, {"key": True}),
                (("put", "b", (), (0, 1, 1)), BadKey, {"key": ()}), (("drop", "c", "3"), BadKey, {"key": "3"}),
                (("put", "b", 3, ()), BadValue, {"name": "b"}), (("put", "b", 3, (1, 0, 1)), BadValue, {"name": "b"}),
                (("put", "b", 3, (True, 1, 1)), BadValue, {"name": "b"}), (("put", "c", 3, (6, ())), BadValue, {"name": "c"}),
                (("put", "c", 3, None), BadValue, {"name": "c"})):
            hall = Hall(RULED)
            for _ in range(3):
                hall.go_on()
            for deeds in ((deed,), (("drop", "b", 3), ("put", "c", 9, (1, (1,))), deed, ("put", "zz", 1, ()))):
                for session in (None, (1, (5,))):
                    with self.assertRaises(error) as caught:
                        store.deal(deeds, session)
                    self.assertEqual(vars(caught.exception), attributes)
                    self.assertEqual(store.disk.blocks, blocks)
                with self.assertRaises(error):
                    hall.deal(deeds)
            word, *arguments = deed
            with self.assertRaises(error):
                getattr(store, word)(*arguments)
            if error is not BadValue:
                self.assertEqual(answer_of(store.read, deed[1], deed[2]), answer_of(hall.read, deed[1], deed[2]))
            self.assertEqual(store.disk.blocks, blocks)

    def test_the_same_errors_in_the_same_order(self):
        errors = set()
        for seed in range(3):
            rng = some_rng("order", seed)
            for house in store_houses():
                hall, store = hall_and_store(rng, house, 8)
                for _ in range(20):
                    deeds = list(some_deal(rng, house, hall.epoch, most=5))
                    for _ in range(rng.randrange(3)):
                        name = rng.choice(house.names + ("zz", "", "a1"))
                        key = rng.choice((0, 7, 24, -1, False, None, "k", (0,), 10 ** 9))
                        number = house.names.index(name) if name in house.names else 0
                        whole = rng.choice([rng.choice(lets_of(house)[number]), (), None, 0, True, (True,), ((),), (99,), "w"])
                        deeds.insert(rng.randint(0, len(deeds)), rng.choice((("put", name, key, whole), ("drop", name, key))))
                    blocks = store.disk.blocks
                    told = answer_of(store.deal, tuple(deeds), (3, (rng.randrange(256),)))
                    self.assertEqual(told, answer_of(hall.deal, tuple(deeds)))
                    if told != "None":
                        self.assertEqual(store.disk.blocks, blocks)
                        errors.add(told[:6])
                same_papers(self, hall, store)
        self.assertEqual(errors, {"NoVers", "Retire", "BadKey", "BadVal"})

    def test_the_last_epoch(self):
        store = new_store(LINE)
        for epoch in range(3):
            self.assertIsNone(store.go_on())
        blocks = store.disk.blocks
        for _ in range(2):
            with self.assertRaises(LastEpoch):
                store.go_on()
            self.assertEqual(store.disk.blocks, blocks)
            self.assertEqual(store.epoch, 3)


class Pages(unittest.TestCase):

    def test_going_on_changes_block_0_alone(self):
        rng = some_rng("on")
        for house in store_houses():
            _, store = hall_and_store(rng, house, 6)
            while store.epoch + 1 < len(house.events):
                before = store.disk.blocks
                epoch = store.epoch
                store.go_on()
                self.assertEqual(store.disk.blocks, ((epoch + 1, 0),) + before[1:])
                self.assertEqual(store.epoch, epoch + 1)

    def test_pages_of_a_deal_are_of_the_stores_epoch(self):
        store = new_store(LINE)
        store.put("a", 0, (1,))
        store.put("a", 23, (2,))
        store.go_on()
        self.assertEqual([block[0] for block in store.disk.blocks[1:7]], [0] * 6)
        # Nothing changes, but its page is recoded.
        store.drop("a", 9)
        self.assertEqual([block[0] for block in store.disk.blocks[1:7]], [0, 0, 1, 0, 0, 0])
        store.put("b", 0, (1,))
        self.assertEqual([block[0] for block in store.disk.blocks[1:7]], [1, 0, 1, 0, 0, 0])
        store.go_on()
        store.deal((("drop", "c", 1), ("put", "c", 20, (2,)), ("drop", "c", 21), ("drop", "c", 1)))
        self.assertEqual([block[0] for block in store.disk.blocks[1:7]], [2, 0, 1, 0, 0, 2])
        self.assertEqual([store.read("a", key) for key in (0, 20, 23)], [(1,), (1,), (2,)])
        # A deal that is refused recodes nothing.
        with self.assertRaises(BadKey):
            store.deal((("drop", "c", 4), ("drop", "c", 24)))
        self.assertEqual([block[0] for block in store.disk.blocks[1:7]], [2, 0, 1, 0, 0, 2])
        # Neither does a deal without deeds.
        store.deal((), (0, (1,)))
        self.assertEqual([block[0] for block in store.disk.blocks[1:7]], [2, 0, 1, 0, 0, 2])

    def test_each_page_by_its_papers(self):
        rng = some_rng("papers")
        for house in store_houses():
            hall, store = hall_and_store(rng, house, 10)
            deeds = some_deal(rng, house, hall.epoch)
            touched = {deed[2] // 4 for deed in deeds}
            before = store.disk.blocks
            hall.deal(deeds)
            store.deal(deeds)
            for page in range(6):
                if page in touched:
                    own = page_of(tables_of(house), hall.epoch, tuple(codes_in_hall(hall, key) for key in range(4 * page, 4 * page + 4)))
                    self.assertEqual(store.disk.blocks[1 + page], own)
                else:
                    self.assertEqual(store.disk.blocks[1 + page], before[1 + page])

    def test_batches(self):
        for many, lefts in ((0, [6, 6]), (1, [5, 4, 3, 2, 1, 0, 0]), (2, [4, 2, 0, 0]), (4, [2, 0]), (6, [0, 0]), (99, [0])):
            store = new_store(LINE)
            store.put("a", 5, (2,))
            store.go_on()
            store.go_on()
            done = 0
            for left in lefts:
                before = store.disk.blocks
                self.assertEqual(store.batch(many), left)
                done = min(6, done + many)
                self.assertEqual([block[0] for block in store.disk.blocks[1:7]], [2] * done + [0] * (6 - done))
                self.assertEqual(store.disk.blocks[1 + done:], before[1 + done:])
                self.assertEqual(store.read("b", 5), (1,))
                self.assertIs(store.at_rest(), done == 6)
        store = new_store(LINE)
        self.assertEqual(store.batch(), 0)
        store.go_on()
        self.assertEqual(store.batch(), 5)
        self.assertEqual(store.batch(many=2), 3)

    def test_a_batch_takes_the_lowest_pages_of_elder_epochs(self):
        store = new_store(LINE)
        for key, value in ((0, 0), (4, 1), (8, 2), (12, 0), (16, 1), (20, 2)):
            store.put("a", key, (value,))
        store.go_on()
        store.drop("b", 7)
        store.go_on()
        store.drop("b", 3)
        store.drop("b", 15)
        self.assertEqual([block[0] for block in store.disk.blocks[1:7]], [2, 1, 0, 2, 0, 0])
        self.assertEqual(store.batch(2), 2)
        self.assertEqual([block[0] for block in store.disk.blocks[1:7]], [2, 2, 2, 2, 0, 0])
        self.assertEqual(store.batch(1), 1)
        self.assertEqual([block[0] for block in store.disk.blocks[1:7]], [2, 2, 2, 2, 2, 0])
        self.assertEqual(store.batch(0), 1)
        self.assertEqual([store.read("c", key) for key in range(0, 24, 4)], [(0,), (1,), (1,), (0,), (1,), (1,)])

    def test_reading_writes_nothing(self):
        rng = some_rng("reading")
        for house in store_houses():
            hall, store = hall_and_store(rng, house, 10)
            again = opened(house, store.disk.blocks, 0)
            blocks = again.disk.blocks
            for _ in range(2):
                same_papers(self, hall, again)
                again.at_rest()
                again.session(0)
                again.batch(0)
                again.deal(())
                self.assertEqual(again.disk.blocks, blocks)


class Sessions(unittest.TestCase):

    def test_session_blocks(self):
        store = new_store(LINE)
        for client in range(4):
            store.deal((), (client, (client, 1)))
        self.assertEqual(store.disk.blocks[7:11], tuple((client, 1) for client in range(4)))
        store.deal((("put", "a", 3, (1,)), ("put", "a", 4, (2,))), session=(2, ()))
        self.assertEqual(store.disk.blocks[7:11], ((0, 1), (1, 1), (), (3, 1)))
        self.assertEqual([store.session(client) for client in range(4)], [(0, 1), (1, 1), (), (3, 1)])
        self.assertEqual(store.present_keys(), (3, 4))
        long = tuple(range(200))
        store.deal((("drop", "a", 3),), (0, long))
        self.assertEqual(store.session(0), long)
        is_at_rest_disk(self, store, (long, (1, 1), (), (3, 1)))
        self.assertEqual(opened(LINE, store.disk.blocks).session(0), long)
        store.put("a", 9, (1,))
        store.go_on()
        store.batch(9)
        is_at_rest_disk(self, store, (long, (1, 1), (), (3, 1)))

    def test_deals_with_and_without_sessions(self):
        rng = some_rng("sessions")
        for house in store_houses():
            hall, store = Hall(house), new_store(house)
            sessions = [()] * 4
            for _ in range(12):
                deeds = some_deal(rng, house, hall.epoch)
                session = None
                if rng.random() < 0.6:
                    session = (rng.randrange(4), tuple(rng.randrange(256) for _ in range(rng.choice((0, 1, 5, 200)))))
                    sessions[session[0]] = session[1]
                self.assertIsNone(store.deal(deeds, session))
                hall.deal(deeds)
                is_at_rest_disk(self, store, tuple(sessions))
                if rng.random() < 0.2:
                    self.assertEqual(answer_of(store.go_on), answer_of(hall.go_on))
            same_papers(self, hall, store)


class Turns(unittest.TestCase):

    def test_stores_by_turns(self):
        """Several stores, some of one house and some on the same tables, do what they would do alone."""
        rng = some_rng("turns")
        houses = [LINE, HIDING, PAIR, RULED, LINE, HIDING, NOTHING]
        plans = []
        for house in houses:
            hall = Hall(house)
            plan = []
            for _ in range(15):
                if rng.random() < 0.2 and hall.epoch + 1 < len(house.events):
                    hall.go_on()
                    plan.append(("go_on",))
                elif rng.random() < 0.2:
                    plan.append(("batch", rng.randrange(3)))
                else:
                    plan.append(("deal", some_deal(rng, house, hall.epoch)))
            plans.append(plan)
        alone = []
        for house, plan in zip(houses, plans):
            store = Store(Tables(house), Disk())
            for word, *arguments in plan:
                getattr(store, word)(*arguments)
            alone.append(store.disk.blocks)
        stores = [new_store(house) for house in houses]
        order = [at for at, plan in enumerate(plans) for _ in plan]
        rng.shuffle(order)
        for at in order:
            word, *arguments = plans[at].pop(0)
            getattr(stores[at], word)(*arguments)
            other = rng.choice(stores)
            other.present_keys()
            other.paper(rng.randrange(24))
        self.assertEqual([store.disk.blocks for store in stores], alone)

    def test_a_store_on_blocks_that_another_one_wrote(self):
        house = house_of("open a { n : num 0 .. 2 ; m : num 0 .. 1 ; } add b from a { n : num 0 .. 2 ; step n to n by same ; step m to none by apart 1 [ ] ; } retire a ;")
        one = Store(Tables(house), Disk())
        one.put("a", 5, (2, 0))
        one.go_on()
        two = Store(Tables(house), Disk(one.disk.blocks))
        two.put("b", 5, (1,))
        self.assertEqual(one.read("a", 5), (2, 0))
        self.assertEqual(two.read("a", 5), (1, 0))
        two.go_on()
        self.assertEqual(one.epoch, 1)
        self.assertEqual(two.read("b", 5), (1,))


if __name__ == "__main__":
    unittest.main()
