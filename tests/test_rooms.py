"""Promises 1, 5 and 6: where books come, which never come to the gate, what bars them, and free yards."""

import unittest

from holestore.errors import BadBook, BadStanding, BadYard
from holestore.rooms import bar, is_free, never, room, rooms, shows_bar
from tests import samples
from tests.samples import (ALL_TIED, BOW, KITE, NO_NUMBERS, NO_TUPLES, PAIR, PATH, RING_OF_SEVEN, SEVEN, SQUARE,
                           STAR, THREE_BY_FOUR, TRIANGLE, WRONG_STANDINGS, WRONG_YARDS)
from tests.wrongs import numbers_but

FULL = (0, 1, 2, 3, 4, 5, None)
SMALL_WEBS = [(places, ties) for places in range(2, 5) for ties in samples.all_webs(places)]
SOME_LARGER_WEBS = [(5, ties) for ties in samples.all_webs(5)[::23]]
LONG_PATH = (7, tuple((k, k + 1) for k in range(6)), 3)


def slow_rooms(yard, standing):
    """Return the places of each book by going through all standings that come."""
    books = [book for book in standing if book is not None]
    came = list(samples.distances(yard, standing))
    return tuple([tuple(sorted({here.index(book) for here in came})) for book in sorted(books)])


def slow_bars(yard, places):
    """Return the places of a room without which the gate is parted from each of the others there."""
    if yard[2] in places:
        return []
    return [place for place in places
            if all(samples.hang_without(place, yard[2], other, yard[0], yard[1]) is False
                   for other in places if other != place)]


class Rooms(unittest.TestCase):

    def test_example(self):
        yard = (4, ((0, 1), (0, 2), (1, 2), (2, 3)), 0)
        self.assertEqual(
            [room(yard, (0, 1, None, 2), 2), never(yard, (0, 1, None, 2)), bar(yard, (0, 1, None, 2), 2),
             is_free(yard), is_free((4, yard[1], 2))],
            [(2, 3), (2,), 2, False, True])

    def test_small_webs_with_one_empty_place(self):
        for places, ties in SMALL_WEBS + SOME_LARGER_WEBS:
            for standing in samples.all_standings_of(places, places - 1)[::max(1, places - 2)]:
                expected = slow_rooms((places, ties, 0), standing)
                with self.subTest(ties=ties, standing=standing):
                    self.assertEqual(rooms((places, ties, 0), standing), expected)
                    self.assertEqual(tuple([room((places, ties, 0), standing, book) for book in range(places - 1)]),
                                     expected)

    def test_small_webs_with_several_empty_places(self):
        for places, ties in SMALL_WEBS + SOME_LARGER_WEBS:
            for books in range(1, places - 1):
                for standing in samples.all_standings_of(places, books)[::3]:
                    with self.subTest(ties=ties, standing=standing):
                        self.assertEqual(rooms((places, ties, 0), standing), slow_rooms((places, ties, 0), standing))

    def test_two_places(self):
        for standing in [(0, None), (None, 0)]:
            self.assertEqual(room(PAIR, standing, 0), (0, 1))
            self.assertEqual(rooms(PAIR, standing), ((0, 1),))
            self.assertEqual(never(PAIR, standing), ())
            self.assertIsNone(bar(PAIR, standing, 0))

    def test_seven_places(self):
        for yard in (RING_OF_SEVEN, SEVEN, THREE_BY_FOUR, ALL_TIED):
            self.assertEqual(rooms(yard, FULL), (tuple(range(7)),) * 6)
        self.assertEqual(rooms(LONG_PATH, FULL), ((0, 1), (1, 2), (2, 3), (3, 4), (4, 5), (5, 6)))
        self.assertEqual(rooms(LONG_PATH, (0, None, 1, 2, 3, 4, 5)),
                         ((0, 1), (1, 2), (2, 3), (3, 4), (4, 5), (5, 6)))

    def test_a_book_at_a_place_of_several_pieces(self):
        # Place 2 of BOW is in both triangles; its book comes where the empty place is.
        self.assertEqual(room(BOW, (0, None, 1, 2, 3), 1), (0, 1, 2))
        self.assertEqual(room(BOW, (0, 2, 1, 3, None), 1), (2, 3, 4))
        # The empty place lies beyond another piece.
        self.assertEqual(room(LONG_PATH, (None, 0, 1, 2, 3, 4, 5), 4), (4, 5))
        self.assertEqual(room(LONG_PATH, FULL, 4), (4, 5))
        self.assertEqual(room(LONG_PATH, FULL, 0), (0, 1))
        self.assertEqual(room(STAR, (0, 1, None, 2), 0), (0, 2))
        self.assertEqual(room(STAR, (0, 1, 2, None), 0), (0, 3))

    def test_several_empty_places(self):
        self.assertEqual(rooms(STAR, (0, 1, None, None)), ((0, 1, 2, 3), (0, 1, 2, 3)))
        self.assertEqual(rooms(PATH, (0, None, None)), ((0, 1, 2),))
        self.assertEqual(rooms(LONG_PATH, (0, None, 1, None, 2, None, 3)),
                         ((0, 1, 2, 3), (1, 2, 3, 4), (2, 3, 4, 5), (3, 4, 5, 6)))

    def test_values_are_tuples(self):
        self.assertIsInstance(room(KITE, (0, 1, None, 2), 2), tuple)
        for standing in [(0, 1, None, 2), (0, None, None, 1)]:
            self.assertIsInstance(rooms(KITE, standing), tuple)
            self.assertTrue(all(isinstance(places, tuple) for places in rooms(KITE, standing)))
        self.assertIsInstance(never(KITE, (0, 1, None, 2)), tuple)


class Bars(unittest.TestCase):

    def test_never_and_bar_of_small_webs(self):
        for places, ties in SMALL_WEBS + SOME_LARGER_WEBS[::3]:
            for gate in range(places):
                for standing in samples.all_standings_of(places, places - 1)[::places]:
                    self.check((places, ties, gate), standing)

    def check(self, yard, standing):
        found = slow_rooms(yard, standing)
        with self.subTest(yard=yard, standing=standing):
            self.assertEqual(never(yard, standing),
                             tuple([book for book, places in enumerate(found) if yard[2] not in places]))
            for book, places in enumerate(found):
                bars = slow_bars(yard, places)
                for value in range(-1, yard[0] + 1):
                    self.assertIs(shows_bar(yard, standing, book, value), value in bars)
                if yard[2] in places:
                    self.assertIsNone(bar(yard, standing, book))
                else:
                    self.assertIn(bar(yard, standing, book), bars)

    def test_never(self):
        self.assertEqual(never(PATH, (0, None, 1)), (1,))
        self.assertEqual(never(PATH, (0, 1, None)), (1,))
        self.assertEqual(never(PATH, (None, 1, 0)), (0,))
        self.assertEqual(never((3, PATH[1], 1), (0, None, 1)), ())
        self.assertEqual(never(LONG_PATH, FULL), (0, 1, 4, 5))
        self.assertEqual(never(TRIANGLE, (0, 1, None)), ())

    def test_the_gate_is_a_parting_place(self):
        self.assertEqual(never(BOW, (0, None, 1, 2, 3)), ())
        self.assertEqual(never((4, KITE[1], 2), (0, 1, None, 2)), ())
        # Of two parting places one is the gate.
        yard = (4, ((0, 1), (1, 2), (2, 3)), 1)
        self.assertEqual(never(yard, (0, None, 1, 2)), (2,))
        self.assertEqual(bar(yard, (0, None, 1, 2), 2), 2)

    def test_a_book_at_its_bar(self):
        # The book of place 1 can only come to place 2, farther from the gate.
        self.assertEqual(room(PATH, (0, 1, None), 1), (1, 2))
        self.assertEqual(bar(PATH, (0, 1, None), 1), 1)

    def test_shows_bar_takes_any_value(self):
        for value in NO_TUPLES + NO_NUMBERS + [2, 3, 4, -2, (1,), [1], {1: 1}, "1", 10 ** 30]:
            with self.subTest(value=value):
                self.assertIs(shows_bar(PATH, (0, None, 1), 1, value), False)
                self.assertIs(shows_bar(PATH, (0, None, 1), 0, value), False)
        self.assertIs(shows_bar(PATH, (0, None, 1), 1, 1), True)
        self.assertIs(shows_bar(PATH, (0, None, 1), 1, 0), False)

    def test_shows_bar_of_a_book_that_comes(self):
        for value in [None, 0, 1, 2, 3]:
            self.assertIs(shows_bar(PATH, (0, None, 1), 0, value), False)
            self.assertIs(shows_bar(TRIANGLE, (0, None, 1), 0, value), False)

    def test_truths_are_no_bars(self):
        # Place 1 bars book 1, and place 0 would, with the gate at place 2.
        self.assertIs(shows_bar(PATH, (0, None, 1), 1, True), False)
        yard = (3, ((0, 1), (0, 2)), 2)
        self.assertIs(shows_bar(yard, (None, 0, 1), 0, 0), True)
        self.assertIs(shows_bar(yard, (None, 0, 1), 0, False), False)


class Free(unittest.TestCase):

    def test_small_webs(self):
        for places, ties in SMALL_WEBS + SOME_LARGER_WEBS:
            standings = samples.all_standings_of(places, places - 1)[::max(1, 3 * (places - 3))]
            for gate in range(places):
                yard = (places, ties, gate)
                lacking = [any(gate not in found for found in slow_rooms(yard, standing)) for standing in standings]
                with self.subTest(yard=yard):
                    self.assertIs(is_free(yard), not any(lacking))
                    # A yard that is not free has no standing from which all books come.
                    self.assertEqual(any(lacking), all(lacking))

    def test_some(self):
        self.assertIs(is_free(PAIR), True)
        self.assertIs(is_free(PATH), False)
        self.assertIs(is_free((3, PATH[1], 1)), True)
        self.assertIs(is_free(BOW), True)
        self.assertIs(is_free((5, BOW[1], 0)), False)
        self.assertIs(is_free(LONG_PATH), False)
        for yard in (SQUARE, RING_OF_SEVEN, SEVEN, THREE_BY_FOUR, ALL_TIED):
            self.assertIs(is_free(yard), True)


class WrongArguments(unittest.TestCase):

    def test_wrong_yards(self):
        for value, part in WRONG_YARDS:
            for call in [
                lambda yard: room(yard, None, None),
                lambda yard: rooms(yard, None),
                lambda yard: never(yard, None),
                lambda yard: bar(yard, None, None),
                lambda yard: shows_bar(yard, None, None, None),
                is_free,
            ]:
                with self.subTest(value=value):
                    with self.assertRaises(BadYard) as caught:
                        call(value)
                    self.assertEqual(caught.exception.part, part)

    def test_wrong_standings(self):
        for value in WRONG_STANDINGS:
            with self.subTest(value=value):
                self.assertRaises(BadStanding, room, PATH, value, None)
                self.assertRaises(BadStanding, rooms, PATH, value)
                self.assertRaises(BadStanding, never, PATH, value)
                self.assertRaises(BadStanding, bar, PATH, value, None)
                self.assertRaises(BadStanding, shows_bar, PATH, value, None, None)

    def test_more_than_one_empty_place(self):
        for standing in [(0, None, None), (None, 0, None), (None, None, 0)]:
            self.assertRaises(BadStanding, room, PATH, standing, 0)
            self.assertRaises(BadStanding, room, PATH, standing, 7)
            self.assertRaises(BadStanding, never, PATH, standing)
            self.assertRaises(BadStanding, bar, PATH, standing, 0)
            self.assertRaises(BadStanding, shows_bar, PATH, standing, 0, 1)
            self.assertEqual(rooms(PATH, standing), ((0, 1, 2),))

    def test_wrong_books(self):
        for value in numbers_but(0, 1):
            with self.subTest(value=value):
                self.assertRaises(BadBook, room, PATH, (0, None, 1), value)
                self.assertRaises(BadBook, bar, PATH, (0, None, 1), value)
                self.assertRaises(BadBook, shows_bar, PATH, (0, None, 1), value, None)


if __name__ == "__main__":
    unittest.main()
