"""Promises 1 and 22: a yard at work."""

import random
import unittest

from holestore.benches import Store
from holestore.errors import BadBook, BadNumber, BadSlide, BadStanding, BadYard, NoWay, StoreError
from tests import samples
from tests.samples import (BOW, HOUSE, KITE, NO_NUMBERS, NO_TUPLES, PAIR, PATH, SQUARE, STAR, TRIANGLE,
                           WRONG_STANDINGS, WRONG_YARDS, slow_behind, slow_slides)
from tests.test_requests import random_request, slow_ways
from tests.wrongs import MILLION, numbers_but

MIDDLE = (3, PATH[1], 1)
HELD = (0, None, 1)


def state(store):
    return (store.tick, store.standing, store.held, store.ways)


class Stores(unittest.TestCase):

    def test_example(self):
        store = Store((3, ((0, 1), (1, 2)), 1), (0, None, 1))
        self.assertEqual([store.read(), store.bring(1), store.write(5), store.held, store.standing, store.ways,
                          store.tick], [None, ((2, 1),), True, (0, 5), (0, 1, None), ((1, 2),), 3])

    def test_at_first(self):
        self.assertEqual(state(Store(MIDDLE, HELD)), (0, HELD, (0, 0), ((0, 1), (2, 1))))
        self.assertEqual(state(Store(PAIR, (None, 0))), (0, (None, 0), (0,), ((1, 0),)))
        self.assertEqual(state(Store(STAR, (None, 0, None, None))), (0, (None, 0, None, None), (0,), ((1, 0),)))
        for value in (Store(MIDDLE, HELD).standing, Store(MIDDLE, HELD).held, Store(MIDDLE, HELD).ways):
            self.assertIsInstance(value, tuple)

    def test_slides(self):
        store = Store(MIDDLE, HELD)
        self.assertIsNone(store.slide(0, 1))
        self.assertEqual(state(store), (1, (None, 0, 1), (0, 0), ((1, 0),)))
        store.slide(1, 0)
        store.slide(2, 1)
        self.assertEqual(state(store), (3, (0, 1, None), (0, 0), ((1, 2),)))

    def test_read_and_write(self):
        store = Store(MIDDLE, (None, 0, 1))
        self.assertEqual(store.read(), 0)
        self.assertIs(store.write(7), True)
        self.assertEqual(store.read(), 7)
        store.slide(1, 0)
        self.assertIsNone(store.read())
        self.assertIs(store.write(8), False)
        self.assertEqual(state(store), (6, HELD, (7, 0), ((0, 1), (2, 1))))
        store.slide(2, 1)
        self.assertEqual(store.read(), 0)
        self.assertIs(store.write(-9), True)
        self.assertEqual(store.held, (7, -9))
        self.assertEqual(store.tick, 9)

    def test_numbers_at_the_edges(self):
        store = Store(PAIR, (0, None))
        for number in (MILLION, -MILLION, 0):
            self.assertIs(store.write(number), True)
            self.assertEqual(store.read(), number)
        self.assertEqual(store.tick, 6)

    def test_bring(self):
        store = Store(MIDDLE, HELD)
        self.assertEqual(store.bring(1), ((2, 1),))
        self.assertEqual(store.bring(1), ())
        self.assertEqual(store.tick, 1)
        self.assertEqual(store.bring(0), ((1, 2), (0, 1)))
        self.assertEqual(state(store), (3, (None, 0, 1), (0, 0), ((1, 0),)))

    def test_bring_the_least_of_the_shortest(self):
        chance = random.Random(22)
        several = 0
        for _ in range(200):
            yard, standing, asks = random_request(chance, (PATH, TRIANGLE, SQUARE, KITE, HOUSE, STAR, BOW), 5)
            store = Store(yard, standing)
            ticks = 0
            for book in asks:
                before = state(store)
                ways = slow_ways(yard, store.standing, book)
                several += len(ways) > 1
                if not ways:
                    self.assertRaises(NoWay, store.bring, book)
                    self.assertEqual(state(store), before)
                else:
                    self.assertEqual(store.bring(book), min(ways))
                    self.assertEqual(store.standing[yard[2]], book)
                    ticks += len(min(ways))
                    self.assertEqual(store.tick, ticks)
        self.assertGreater(several, 10)

    def test_random_work(self):
        chance = random.Random(23)
        for _ in range(100):
            yard, standing, _ = random_request(chance, (PATH, SQUARE, KITE, STAR, BOW), 0)
            store = Store(yard, standing)
            held = [0 for book in standing if book is not None]
            for tick in range(30):
                self.assertEqual(state(store), (tick, standing, tuple(held), slow_slides(yard, standing)))
                book = standing[yard[2]]
                sort = chance.choice(["slide", "slide", "read", "write"])
                if sort == "slide":
                    slide = chance.choice(slow_slides(yard, standing))
                    store.slide(*slide)
                    standing = slow_behind(standing, slide)
                elif sort == "read":
                    self.assertEqual(store.read(), None if book is None else held[book])
                else:
                    self.assertIs(store.write(tick), book is not None)
                    if book is not None:
                        held[book] = tick

    def test_two_stores_are_apart(self):
        one, other = Store(PAIR, (0, None)), Store(PAIR, (0, None))
        one.write(5)
        one.slide(0, 1)
        self.assertEqual(state(other), (0, (0, None), (0,), ((0, 1),)))

    def test_what_was_told_stays(self):
        store = Store(PAIR, (0, None))
        told = state(store)
        store.write(4)
        store.slide(0, 1)
        self.assertEqual(told, (0, (0, None), (0,), ((0, 1),)))

    def test_all_slides_can_be_done(self):
        for yard, standing in [(STAR, (0, None, 1, None)), (SQUARE, (0, 1, 2, None))]:
            for here in samples.distances(yard, standing):
                self.assertEqual(Store(yard, here).ways, slow_slides(yard, here))
                for slide in slow_slides(yard, here):
                    store = Store(yard, here)
                    store.slide(*slide)
                    self.assertEqual(store.standing, slow_behind(here, slide))


class WrongArguments(unittest.TestCase):

    def unchanged(self, store, error, call, *rest):
        before = state(store)
        with self.subTest(rest=rest):
            self.assertRaises(error, call, *rest)
            self.assertEqual(state(store), before)

    def test_wrong_yards_and_standings(self):
        for value, part in WRONG_YARDS:
            with self.assertRaises(BadYard) as caught:
                Store(value, None)
            self.assertEqual(caught.exception.part, part)
        for value in WRONG_STANDINGS:
            self.assertRaises(BadStanding, Store, PATH, value)

    def test_wrong_slides(self):
        store = Store(MIDDLE, HELD)
        for one, other in [(1, 0), (0, 2), (2, 0), (0, 0), (1, 1), (1, 2), (0, 3), (3, 1), (-1, 1), (2, -2),
                           (False, 1), (2, True), (0, True), ("0", 1), (10 ** 30, 1)]:
            self.unchanged(store, BadSlide, store.slide, one, other)
        for value in NO_NUMBERS + NO_TUPLES:
            self.unchanged(store, BadSlide, store.slide, value, value)
            self.unchanged(store, BadSlide, store.slide, 0, value)
        for value in [value for value in NO_NUMBERS + NO_TUPLES if value != 0 or value is False]:
            self.unchanged(store, BadSlide, store.slide, value, 1)

    def test_wrong_numbers(self):
        for gate in range(3):
            store = Store((3, PATH[1], gate), HELD)
            for value in numbers_but(-MILLION, MILLION):
                self.unchanged(store, BadNumber, store.write, value)

    def test_wrong_books(self):
        store = Store(PATH, HELD)
        for value in numbers_but(0, 1):
            self.unchanged(store, BadBook, store.bring, value)
        store = Store(PATH, (0, None, None))
        self.unchanged(store, BadBook, store.bring, 1)

    def test_a_book_that_never_comes(self):
        store = Store(PATH, HELD)
        self.unchanged(store, NoWay, store.bring, 1)
        self.assertEqual(store.bring(0), ())

    def test_all_are_store_errors(self):
        store = Store(PATH, HELD)
        for call in [lambda: store.slide(None, None), lambda: store.write(None), lambda: store.bring(None),
                     lambda: store.bring(1), lambda: Store(None, None), lambda: Store(PATH, None)]:
            self.assertRaises(StoreError, call)


if __name__ == "__main__":
    unittest.main()
