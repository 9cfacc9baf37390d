"""Promises 1 and 19: yards with more empty places."""

import unittest
from math import factorial

from holestore.errors import BadNumber, BadYard
from holestore.holes import count_classes, most_books
from holestore.orders import orders
from holestore.rooms import is_free
from tests import samples
from tests.samples import (ALL_TIED, BOW, KITE, PAIR, PATH, RING_OF_SEVEN, SEVEN, SQUARE, STAR, THREE_BY_FOUR, TRIANGLE,
                           WRONG_YARDS)
from tests.wrongs import numbers_but

LONG_PATH = (7, tuple((k, k + 1) for k in range(6)), 3)
SMALL_WEBS = [(places, ties) for places in range(2, 5) for ties in samples.all_webs(places)]
SOME_LARGER_WEBS = [(5, ties) for ties in samples.all_webs(5)[::45]]


def slow_classes(yard, books):
    """Return the list of the classes, each the list of its standings."""
    found = []
    met = set()
    for standing in samples.all_standings_of(yard[0], books):
        if standing not in met:
            found.append(list(samples.distances(yard, standing)))
            met.update(found[-1])
    return found


def all_come(classes, gate, books):
    """Tell whether in each class every book comes to the gate."""
    return all(len({here[gate] for here in each} - {None}) == books for each in classes)


class Classes(unittest.TestCase):

    def test_example(self):
        self.assertEqual([count_classes((3, ((0, 1), (1, 2)), 0), 2), most_books((3, ((0, 1), (1, 2)), 0)),
                          most_books((3, ((0, 1), (1, 2)), 1))], [2, 1, 2])

    def test_small_webs(self):
        for places, ties in SMALL_WEBS + SOME_LARGER_WEBS:
            classes = {books: slow_classes((places, ties, 0), books) for books in range(1, places)}
            for books in classes:
                with self.subTest(ties=ties, books=books):
                    self.assertEqual(count_classes((places, ties, 0), books), len(classes[books]))
            for gate in range(places):
                most = max([books for books in classes if all_come(classes[books], gate, books)])
                with self.subTest(ties=ties, gate=gate):
                    self.assertEqual(most_books((places, ties, gate)), most)

    def test_one_book(self):
        for yard in (PAIR, PATH, STAR, KITE, BOW, LONG_PATH, RING_OF_SEVEN, SEVEN, ALL_TIED):
            self.assertEqual(count_classes(yard, 1), 1)

    def test_places_less_1_books(self):
        for yard in (PAIR, PATH, TRIANGLE, SQUARE, STAR, KITE, BOW, LONG_PATH, RING_OF_SEVEN, SEVEN, ALL_TIED,
                     THREE_BY_FOUR):
            self.assertEqual(count_classes(yard, yard[0] - 1) * orders(yard), factorial(yard[0] - 1))
        self.assertEqual(count_classes(SEVEN, 6), 6)
        self.assertEqual(count_classes(THREE_BY_FOUR, 6), 2)
        self.assertEqual(count_classes(RING_OF_SEVEN, 6), 120)
        self.assertEqual(count_classes(LONG_PATH, 6), 720)

    def test_paths_and_rings(self):
        # On a path books keep their order, on a ring their order round it.
        for books in range(1, 7):
            self.assertEqual(count_classes(LONG_PATH, books), factorial(books))
            self.assertEqual(count_classes(RING_OF_SEVEN, books), factorial(books - 1))
            self.assertEqual(count_classes(ALL_TIED, books), 1)

    def test_the_gate_is_no_matter_for_classes(self):
        for gate in range(4):
            self.assertEqual(count_classes((4, STAR[1], gate), 3), 6)
            self.assertEqual(count_classes((4, STAR[1], gate), 2), 1)

    def test_most_books_of_some(self):
        self.assertEqual(most_books(PAIR), 1)
        # In the middle of a path of seven, four books come, each one over as many places as there are holes and 1.
        self.assertEqual(most_books(LONG_PATH), 4)
        self.assertEqual(most_books((7, LONG_PATH[1], 0)), 1)
        for yard in (SQUARE, BOW, RING_OF_SEVEN, SEVEN, ALL_TIED, THREE_BY_FOUR):
            self.assertEqual(most_books(yard), yard[0] - 1)
        for places, ties in SMALL_WEBS:
            for gate in range(places):
                yard = (places, ties, gate)
                self.assertEqual(most_books(yard) == places - 1, is_free(yard))


class WrongArguments(unittest.TestCase):

    def test_wrong_yards(self):
        for call in (lambda yard: count_classes(yard, None), most_books):
            for value, part in WRONG_YARDS:
                with self.subTest(value=value):
                    with self.assertRaises(BadYard) as caught:
                        call(value)
                    self.assertEqual(caught.exception.part, part)

    def test_wrong_books(self):
        for value in numbers_but(1, 2):
            with self.subTest(value=value):
                self.assertRaises(BadNumber, count_classes, PATH, value)
        self.assertRaises(BadNumber, count_classes, PAIR, 2)
        self.assertRaises(BadNumber, count_classes, ALL_TIED, 7)
        self.assertEqual(count_classes(PAIR, 1), 1)


if __name__ == "__main__":
    unittest.main()
