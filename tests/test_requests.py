"""Promises 1 and 16: how many slides it takes to bring books to the gate, one behind another."""

import random
import unittest

from holestore.errors import BadBook, BadStanding, BadYard, NoWay
from holestore.requests import farthest_ask, fewest_slides, nearest_slides
from tests import samples
from tests.samples import (ALL_TIED, BOW, HOUSE, KITE, NO_TUPLES, PAIR, PATH, RING_OF_SEVEN, SEVEN, SQUARE, STAR,
                           TRIANGLE, WRONG_STANDINGS, WRONG_YARDS, slow_behind, slow_slides)
from tests.wrongs import numbers_but

MIDDLE = (3, PATH[1], 1)
HELD = (0, None, 1)
FULL = (0, 1, 2, 3, 4, 5, None)
WEBS_OF_FIVE = [(5, ties, 0) for ties in samples.all_webs(5)[::7]]


def slow_fewest(yard, standing, asks):
    """Return the fewest slides by all courses at once: standings beside the number of asks that are done."""
    row = {(standing, 0)}
    met = set()
    slides = 0
    while row:
        row = {(here, many + step) for here, many in row for step in range(len(asks) - many + 1)
               if all(here[yard[2]] == book for book in asks[many:many + step])}
        if any(many == len(asks) for _, many in row):
            return slides
        met |= row
        row = {(slow_behind(here, slide), many) for here, many in row for slide in slow_slides(yard, here)} - met
        slides += 1
    return None


def slow_ways(yard, standing, book):
    """Return all shortest tuples of slides that bring a book to the gate."""
    ways = {(): standing}
    met = {standing}
    while ways:
        there = [way for way in ways if ways[way][yard[2]] == book]
        if there:
            return there
        ways = {way + (slide,): slow_behind(here, slide) for way, here in ways.items()
                for slide in slow_slides(yard, here)}
        ways = {way: here for way, here in ways.items() if here not in met}
        met |= set(ways.values())
    return []


def slow_nearest(yard, standing, asks):
    slides = 0
    for book in asks:
        ways = slow_ways(yard, standing, book)
        if not ways:
            return None
        for slide in min(ways):
            standing = slow_behind(standing, slide)
            slides += 1
    return slides


def slow_farthest(yard, standing):
    far = samples.distances(yard, standing)
    books = [book for book in standing if book is not None]
    needs = [min([far[here] for here in far if here[yard[2]] == book], default=None) for book in books]
    return None if None in needs else max(needs)


def random_request(chance, yards, most):
    yard = chance.choice(yards)
    yard = yard[:2] + (chance.randrange(yard[0]),)
    books = chance.randrange(1, yard[0])
    standing = list(range(books)) + [None] * (yard[0] - books)
    chance.shuffle(standing)
    return yard, tuple(standing), tuple([chance.randrange(books) for _ in range(chance.randrange(most + 1))])


class Requests(unittest.TestCase):

    def check(self, yard, standing, asks):
        fewest, nearest = slow_fewest(yard, standing, asks), slow_nearest(yard, standing, asks)
        with self.subTest(yard=yard, standing=standing, asks=asks):
            if fewest is None:
                self.assertIsNone(nearest)
                self.assertRaises(NoWay, fewest_slides, yard, standing, asks)
                self.assertRaises(NoWay, nearest_slides, yard, standing, asks)
            else:
                self.assertEqual(fewest_slides(yard, standing, asks), fewest)
                self.assertEqual(nearest_slides(yard, standing, asks), nearest)
            self.assertEqual(farthest_ask(yard, standing), slow_farthest(yard, standing))
        return (fewest, nearest)

    def test_example(self):
        yard = (3, ((0, 1), (1, 2)), 1)
        self.assertEqual([fewest_slides(yard, (0, None, 1), (0, 1, 1)), nearest_slides(yard, (0, None, 1), (0, 1, 1)),
                          farthest_ask(yard, (0, None, 1))], [3, 3, 1])

    def test_random_requests(self):
        chance = random.Random(16)
        found = [self.check(*random_request(chance, (PAIR, PATH, TRIANGLE, SQUARE, KITE, HOUSE, STAR), 9))
                 for _ in range(400)]
        self.assertGreater(found.count((None, None)), 20)

    def test_larger_yards(self):
        chance = random.Random(17)
        five = (5, ((0, 1), (0, 2), (1, 3), (2, 4), (3, 4)), 0)
        for _ in range(15):
            self.check(*random_request(chance, (BOW, five), 4))
        for yard, standing, asks in [(RING_OF_SEVEN, FULL, (5, 0)), (SEVEN, (0, 1, None, None, 2, None, 3), (3, 0)),
                                     (RING_OF_SEVEN, (0, 1) + (None,) * 5, (1, 0, 1))]:
            self.check(yard, standing, asks)

    def test_no_asks(self):
        for yard, standing in [(MIDDLE, HELD), (PATH, HELD), (PAIR, (0, None)), (ALL_TIED, FULL)]:
            self.assertEqual(fewest_slides(yard, standing, ()), 0)
            self.assertEqual(nearest_slides(yard, standing, ()), 0)

    def test_a_book_at_the_gate(self):
        for call in (fewest_slides, nearest_slides):
            self.assertEqual(call(PATH, HELD, (0,)), 0)
            self.assertEqual(call(PATH, HELD, (0,) * 20), 0)
            self.assertEqual(call(PAIR, (None, 0), (0,)), 1)
            self.assertEqual(call(PAIR, (None, 0), (0,) * 20), 1)

    def test_the_same_book_twice(self):
        for call in (fewest_slides, nearest_slides):
            self.assertEqual(call(MIDDLE, HELD, (1, 1)), 1)
            self.assertEqual(call(MIDDLE, HELD, (1, 0)), 3)
            self.assertEqual(call(MIDDLE, HELD, (1, 0, 1)), 5)
            self.assertEqual(call(MIDDLE, HELD, (1, 1, 0, 0, 1)), 5)
            self.assertEqual(call(MIDDLE, HELD, (0, 1) * 10), 39)

    def test_a_book_that_never_comes(self):
        for asks in [(1,), (0, 1), (0, 0, 1, 0), (1, 0), (0,) * 19 + (1,)]:
            self.assertRaises(NoWay, fewest_slides, PATH, HELD, asks)
            self.assertRaises(NoWay, nearest_slides, PATH, HELD, asks)
        self.assertIsNone(farthest_ask(PATH, HELD))
        # A book that never comes is no matter if it is not asked for.
        self.assertEqual(fewest_slides(PATH, (None, 0, 1), (0, 0)), 1)
        self.assertEqual(nearest_slides(PATH, (None, 0, 1), (0, 0)), 1)
        self.assertIsNone(farthest_ask(PATH, (None, 0, 1)))

    def test_several_empty_places(self):
        # Behind book 0 no book of a path comes to its gate, unless there is room.
        self.assertEqual(fewest_slides(STAR, (0, None, 1, None), (0, 1)), slow_fewest(STAR, (0, None, 1, None), (0, 1)))
        self.assertEqual(farthest_ask(PATH, (None, None, 0)), 2)
        self.assertIsNone(farthest_ask((4, ((0, 1), (1, 2), (2, 3)), 0), (0, 1, None, None)))
        self.assertEqual(farthest_ask((4, ((0, 1), (1, 2), (2, 3)), 1), (0, 1, None, None)), 2)

    def test_nearest_ways_that_are_not_the_fewest(self):
        # Several ways are as short for the first book, and the least of them hinders the second one.
        yard, standing = (5, ((0, 2), (0, 4), (1, 4), (2, 4), (3, 4)), 0), (None, None, None, 0, 1)
        self.assertEqual((fewest_slides(yard, standing, (0, 1)), nearest_slides(yard, standing, (0, 1))), (5, 6))
        yard, standing = (5, ((0, 2), (1, 3), (2, 3), (2, 4), (3, 4)), 0), (None, 0, None, 2, 1)
        self.assertEqual((fewest_slides(yard, standing, (0, 1)), nearest_slides(yard, standing, (0, 1))), (15, 20))
        chance = random.Random(18)
        more = 0
        for _ in range(500):
            fewest, nearest = self.check(*random_request(chance, WEBS_OF_FIVE, 6))
            if fewest is not None:
                self.assertLessEqual(fewest, nearest)
                more += fewest < nearest
        self.assertGreater(more, 3)

    def test_the_least_of_the_shortest_matters(self):
        # Other shortest ways than the least would lead on in another number of slides.
        chance = random.Random(19)
        unlike = 0
        for _ in range(800):
            yard, standing, asks = random_request(chance, WEBS_OF_FIVE, 2)
            if len(asks) == 2 and slow_fewest(yard, standing, asks) is not None:
                counts = set()
                for way in slow_ways(yard, standing, asks[0]):
                    here = standing
                    for slide in way:
                        here = slow_behind(here, slide)
                    counts.add(len(way) + len(slow_ways(yard, here, asks[1])[0]))
                self.check(yard, standing, asks)
                unlike += len(counts) > 1
        self.assertGreater(unlike, 3)

    def test_farthest_ask_of_small_webs(self):
        for places in range(2, 5):
            for ties in samples.all_webs(places):
                for gate in range(places):
                    for books in range(1, places):
                        for standing in samples.all_standings_of(places, books)[::5]:
                            yard = (places, ties, gate)
                            with self.subTest(yard=yard, standing=standing):
                                self.assertEqual(farthest_ask(yard, standing), slow_farthest(yard, standing))

    def test_two_places(self):
        self.assertEqual(farthest_ask(PAIR, (0, None)), 0)
        self.assertEqual(farthest_ask(PAIR, (None, 0)), 1)


class WrongArguments(unittest.TestCase):

    def test_wrong_asks(self):
        for call in (fewest_slides, nearest_slides):
            for value in NO_TUPLES + [[0, 1], {0: 1}, "01", ((0,),), (0, (1,)), (0,) * 21, (0, 1) * 11, (2,) * 21]:
                with self.subTest(value=value):
                    self.assertRaises(BadBook, call, MIDDLE, HELD, value)
            for value in numbers_but(0, 1):
                with self.subTest(value=value):
                    self.assertRaises(BadBook, call, MIDDLE, HELD, (value,))
                    self.assertRaises(BadBook, call, MIDDLE, HELD, (0, 1, value, 0))
            self.assertRaises(BadBook, call, MIDDLE, (0, None, None), (1,))

    def test_twenty_asks(self):
        for call in (fewest_slides, nearest_slides):
            self.assertEqual(call(MIDDLE, HELD, (1,) * 20), 1)
            self.assertRaises(BadBook, call, MIDDLE, HELD, (1,) * 21)

    def test_wrong_yards_and_standings(self):
        for call in (lambda *rest: fewest_slides(*rest, None), lambda *rest: nearest_slides(*rest, None), farthest_ask):
            for value, part in WRONG_YARDS:
                with self.assertRaises(BadYard) as caught:
                    call(value, None)
                self.assertEqual(caught.exception.part, part)
            for value in WRONG_STANDINGS:
                with self.subTest(value=value):
                    self.assertRaises(BadStanding, call, PATH, value)

    def test_no_way_comes_behind_wrong_asks(self):
        for call in (fewest_slides, nearest_slides):
            self.assertRaises(BadBook, call, PATH, HELD, (1, True))
            self.assertRaises(BadBook, call, PATH, HELD, (1,) * 21)


if __name__ == "__main__":
    unittest.main()
