"""Promises 1 and 7: how many standings come, and the sign that each slide turns."""

import unittest
from itertools import combinations
from math import factorial

from holestore.errors import BadStanding, BadYard
from holestore.orders import all_standings, orders, sign
from holestore.yards import behind_slide, count_standings, slides
from tests import samples
from tests.samples import (ALL_TIED, BOW, HOUSE, KITE, PAIR, PATH, RING_OF_SEVEN, RING_OF_SIX, SEVEN, SQUARE,
                           THREE_BY_FOUR, TRIANGLE, WRONG_STANDINGS, WRONG_YARDS)

FULL = (0, 1, 2, 3, 4, 5, None)


def slow_sign(standing):
    row = [len(standing) if book is None else book for book in standing]
    return sum(1 for former, latter in combinations(row, 2) if former > latter) % 2


class Orders(unittest.TestCase):

    def test_example(self):
        square = (4, ((0, 1), (0, 3), (1, 2), (2, 3)), 0)
        house = (4, ((0, 1), (0, 2), (0, 3), (1, 2), (2, 3)), 0)
        self.assertEqual(
            [orders(square), orders(house), all_standings(house, (0, 1, 2, None)), sign(square, (1, 0, 2, None))],
            [3, 6, 24, 1])

    def test_each_kind_of_piece(self):
        for yard, many in [
            (PAIR, 1),
            (PATH, 1),
            (TRIANGLE, 2),
            (SQUARE, 3),
            (RING_OF_SEVEN, 6),
            (SEVEN, 120),
            (THREE_BY_FOUR, 360),
            ((5, ((0, 2), (0, 3), (0, 4), (1, 2), (1, 3), (1, 4)), 0), 12),
            ((6, tuple(sorted(RING_OF_SIX + [(0, 3)])), 0), 60),
            (HOUSE, 6),
            (ALL_TIED, 720),
            (BOW, 4),
            (KITE, 2),
            ((7, ((0, 2), (0, 3), (0, 4), (1, 2), (1, 3), (1, 4), (4, 5), (4, 6), (5, 6)), 0), 24),
            ((6, ((0, 1), (0, 3), (1, 2), (1, 3), (2, 3), (3, 4), (4, 5)), 0), 6),
        ]:
            with self.subTest(yard=yard):
                self.assertEqual(orders(yard), many)

    def test_small_webs(self):
        for places in range(2, 6):
            standing = tuple(range(places - 1)) + (None,)
            for ties in samples.all_webs(places)[::1 if places < 5 else 7]:
                yard = (places, ties, 0)
                came = samples.distances(yard, standing)
                with self.subTest(ties=ties):
                    self.assertEqual(orders(yard), sum(1 for here in came if here[-1] is None))
                    self.assertEqual(all_standings(yard, standing), len(came))

    def test_all_standings(self):
        for yard in (RING_OF_SEVEN, SEVEN, THREE_BY_FOUR, ALL_TIED):
            with self.subTest(yard=yard):
                self.assertEqual(all_standings(yard, FULL), count_standings(yard, FULL))
        self.assertEqual(all_standings(PAIR, (None, 0)), 2)
        self.assertEqual(all_standings(PATH, (0, None, 1)), 3)
        self.assertEqual(all_standings(ALL_TIED, FULL), factorial(7))


class Signs(unittest.TestCase):

    def test_all_standings_of_small_yards(self):
        for places in range(2, 6):
            yard = (places, tuple((k, k + 1) for k in range(places - 1)), 0)
            for standing in samples.all_standings_of(places, places - 1):
                with self.subTest(standing=standing):
                    self.assertEqual(sign(yard, standing), slow_sign(standing))

    def test_each_slide_turns_it(self):
        for yard in (PAIR, PATH, TRIANGLE, SQUARE, BOW, ALL_TIED):
            for standing in samples.all_standings_of(yard[0], yard[0] - 1)[::11]:
                for slide in slides(yard, standing):
                    with self.subTest(yard=yard, standing=standing, slide=slide):
                        self.assertEqual(sign(yard, behind_slide(yard, standing, slide)), 1 - sign(yard, standing))

    def test_the_empty_place_is_greater_than_all(self):
        self.assertEqual(sign(PAIR, (0, None)), 0)
        self.assertEqual(sign(PAIR, (None, 0)), 1)
        self.assertEqual(sign(PATH, (None, 0, 1)), 0)
        self.assertEqual(sign(PATH, (None, 1, 0)), 1)
        self.assertEqual(sign(ALL_TIED, FULL), 0)

    def test_it_is_an_integer(self):
        self.assertNotIsInstance(sign(PAIR, (0, None)), bool)


class WrongArguments(unittest.TestCase):

    def test_wrong_yards(self):
        for value, part in WRONG_YARDS:
            for call in [orders, lambda yard: all_standings(yard, None), lambda yard: sign(yard, None)]:
                with self.subTest(value=value):
                    with self.assertRaises(BadYard) as caught:
                        call(value)
                    self.assertEqual(caught.exception.part, part)

    def test_wrong_standings(self):
        for value in WRONG_STANDINGS + [(0, None, None), (None, 0, None), (None, None, 0)]:
            with self.subTest(value=value):
                self.assertRaises(BadStanding, all_standings, PATH, value)
                self.assertRaises(BadStanding, sign, PATH, value)


if __name__ == "__main__":
    unittest.main()
