"""Promises 1 and 4: standings and slides."""

import unittest

from holestore.errors import BadSlide, BadStanding, BadYard, NoWay, StoreError
from holestore.yards import behind_slide, count_standings, slides, slides_to
from tests import samples
from tests.samples import (ALL_TIED, BOW, HOUSE, KITE, NO_TUPLES, PAIR, PATH, RING_OF_SEVEN, SEVEN, SQUARE,
                           THREE_BY_FOUR, TRIANGLE, WRONG_STANDINGS, WRONG_YARDS, distances, slow_behind,
                           slow_slides)

FULL = (0, 1, 2, 3, 4, 5, None)
YARDS = (PAIR, PATH, TRIANGLE, SQUARE, KITE, HOUSE, BOW)

WRONG_SLIDES = NO_TUPLES + [
    (),
    (1,),
    (1, 2, 2),
    (2, 1),
    (0, 2),
    (0, 1),
    (1, 0),
    (1, 1),
    (2, 2),
    (1, 3),
    (3, 2),
    (-2, 2),
    (1, -1),
    (True, 2),
    (1, "2"),
    ("1", 2),
    (1, None),
    (None, 2),
    ((1,), 2),
    (1, [2]),
    ({}, 2),
    [1, 2],
    {1: 2},
    "12",
    (10 ** 30, 2),
]


def slow_way(yard, standing, far):
    """Return the slides that always come nearer, the least of them each time, to where far is 0."""
    way = []
    while far[standing]:
        nearer = [slide for slide in slow_slides(yard, standing)
                  if far[slow_behind(standing, slide)] < far[standing]]
        way.append(nearer[0])
        standing = slow_behind(standing, nearer[0])
    return tuple(way)


class Slides(unittest.TestCase):

    def test_example(self):
        yard = (3, ((0, 1), (0, 2), (1, 2)), 0)
        self.assertEqual(
            [slides(yard, (0, 1, None)), behind_slide(yard, (0, 1, None), (1, 2)),
             slides_to(yard, (0, 1, None), (1, None, 0)), count_standings(yard, (0, 1, None))],
            [((0, 2), (1, 2)), (0, None, 1), ((0, 2), (1, 0)), 6])

    def test_one_book(self):
        self.assertEqual(slides(PATH, (None, 0, None)), ((1, 0), (1, 2)))
        self.assertEqual(slides(PAIR, (None, 0)), ((1, 0),))
        self.assertEqual(slides(ALL_TIED, (None, None, None, 0, None, None, None)),
                         ((3, 0), (3, 1), (3, 2), (3, 4), (3, 5), (3, 6)))
        self.assertEqual(count_standings(ALL_TIED, (None, None, None, 0, None, None, None)), 7)

    def test_several_empty_places(self):
        self.assertEqual(slides(SQUARE, (None, 1, None, 0)), ((1, 0), (1, 2), (3, 0), (3, 2)))
        self.assertEqual(slides(PATH, (0, None, None)), ((0, 1),))
        self.assertEqual(behind_slide(SQUARE, (None, 1, None, 0), (3, 2)), (None, 1, 0, None))

    def test_slides_and_what_is_behind_them(self):
        for yard in YARDS:
            for books in range(1, yard[0]):
                for standing in samples.all_standings_of(yard[0], books):
                    with self.subTest(yard=yard, standing=standing):
                        self.assertEqual(slides(yard, standing), slow_slides(yard, standing))
                        for slide in slides(yard, standing):
                            self.assertEqual(behind_slide(yard, standing, slide), slow_behind(standing, slide))

    def test_an_empty_place_does_not_slide(self):
        with self.assertRaises(BadSlide):
            behind_slide(PATH, (0, None, None), (2, 1))
        with self.assertRaises(BadSlide):
            behind_slide(PATH, (0, None, None), (1, 0))

    def test_values_are_tuples(self):
        self.assertIsInstance(slides(PATH, (0, 1, None)), tuple)
        self.assertIsInstance(slides(PATH, (0, 1, None))[0], tuple)
        self.assertIsInstance(behind_slide(PATH, (0, 1, None), (1, 2)), tuple)
        self.assertIsInstance(slides_to(PATH, (0, 1, None), (0, None, 1)), tuple)


class Ways(unittest.TestCase):

    def test_to_itself(self):
        for yard in YARDS:
            standing = (0,) + (None,) * (yard[0] - 1)
            self.assertEqual(slides_to(yard, standing, standing), ())
        self.assertEqual(slides_to(SEVEN, FULL, FULL), ())

    def test_least_of_the_shortest(self):
        for yard in YARDS:
            for books in range(1, yard[0]):
                self.all_ways(yard, samples.all_standings_of(yard[0], books))

    def all_ways(self, yard, standings):
        for other in standings[::max(1, len(standings) // 12)]:
            far = distances(yard, other)
            for standing in standings[::max(1, len(standings) // 15)]:
                with self.subTest(yard=yard, standing=standing, other=other):
                    if standing in far:
                        self.assertEqual(slides_to(yard, standing, other), slow_way(yard, standing, far))
                    else:
                        self.assertRaises(NoWay, slides_to, yard, standing, other)

    def test_least_of_two_shortest(self):
        square = SQUARE[:2] + (2,)
        self.assertEqual(slides_to(square, (0, None, None, None), (None, None, 0, None)), ((0, 1), (1, 2)))
        self.assertEqual(slides_to(square, (0, None, None, 1), (None, None, 0, 1)), ((0, 1), (1, 2)))
        self.assertEqual(slides_to(square, (0, 1, None, None), (None, 1, 0, None)), ((0, 3), (3, 2)))
        # Two slides that can be done in either order: the least tuple begins with the lesser one.
        self.assertEqual(slides_to((4, ((0, 1), (1, 2), (2, 3)), 0), (0, None, None, 1), (None, 0, 1, None)),
                         ((0, 1), (3, 2)))

    def test_standings_that_cannot_be_reached(self):
        for standing, other in [
            ((0, 1, None), (1, 0, None)),
            ((0, 1, None), (0, None, None)),
            ((0, None, None), (0, 1, None)),
        ]:
            with self.subTest(standing=standing, other=other):
                self.assertRaises(NoWay, slides_to, PATH, standing, other)
        self.assertRaises(NoWay, slides_to, SQUARE, (0, 1, 2, None), (1, 0, 2, None))
        self.assertRaises(NoWay, slides_to, THREE_BY_FOUR, FULL, (1, 0) + FULL[2:])

    def test_seven_places(self):
        other = (1, 0) + FULL[2:]
        far = distances(ALL_TIED, other)
        self.assertEqual(slides_to(ALL_TIED, FULL, other), slow_way(ALL_TIED, FULL, far))

    def test_a_far_standing_of_seven(self):
        far = distances(SEVEN, FULL)
        standing = max(sorted(far, key=str), key=lambda each: far[each])
        self.assertEqual(slides_to(SEVEN, standing, FULL), slow_way(SEVEN, standing, far))
        self.assertEqual(len(slides_to(SEVEN, standing, FULL)), max(far.values()))


class Counts(unittest.TestCase):

    def test_seven_places_one_empty(self):
        path = (7, tuple((k, k + 1) for k in range(6)), 0)
        for yard, many in [(path, 7), (RING_OF_SEVEN, 42), (SEVEN, 840), (THREE_BY_FOUR, 2520), (ALL_TIED, 5040)]:
            with self.subTest(yard=yard):
                self.assertEqual(count_standings(yard, FULL), many)

    def test_two_places(self):
        self.assertEqual(count_standings(PAIR, (0, None)), 2)
        self.assertEqual(count_standings(PAIR, (None, 0)), 2)

    def test_several_empty_places(self):
        self.assertEqual(count_standings(PATH, (0, None, None)), 3)
        self.assertEqual(count_standings(RING_OF_SEVEN, (0, 1) + (None,) * 5), 42)
        self.assertEqual(count_standings(RING_OF_SEVEN, (0, 1, 2) + (None,) * 4), 105)
        self.assertEqual(count_standings((4, ((0, 1), (0, 2), (0, 3)), 0), (0, 1, None, None)), 12)
        self.assertEqual(count_standings((4, ((0, 1), (1, 2), (2, 3)), 0), (0, None, 1, None)), 6)

    def test_as_many_as_walked_through(self):
        for yard in YARDS:
            for books in range(1, yard[0]):
                for standing in samples.all_standings_of(yard[0], books)[::5]:
                    with self.subTest(yard=yard, standing=standing):
                        self.assertEqual(count_standings(yard, standing), len(distances(yard, standing)))


class WrongArguments(unittest.TestCase):

    def test_wrong_yards(self):
        for value, part in WRONG_YARDS:
            for call, rest in [
                (slides, (None,)),
                (behind_slide, (None, None)),
                (slides_to, (None, None)),
                (count_standings, (None,)),
                (slides, ((0, None),)),
                (behind_slide, ((0, None), (0, 1))),
                (slides_to, ((0, None), (0, None))),
                (count_standings, ((0, None),)),
            ]:
                with self.subTest(value=value, call=call):
                    with self.assertRaises(BadYard) as caught:
                        call(value, *rest)
                    self.assertEqual(caught.exception.part, part)

    def test_wrong_standings(self):
        for value in WRONG_STANDINGS:
            with self.subTest(value=value):
                self.assertRaises(BadStanding, slides, PATH, value)
                self.assertRaises(BadStanding, count_standings, PATH, value)
                self.assertRaises(BadStanding, behind_slide, PATH, value, (1, 2))
                self.assertRaises(BadStanding, slides_to, PATH, value, (0, 1, None))
                self.assertRaises(BadStanding, slides_to, PATH, (0, 1, None), value)

    def test_standings_of_another_yard(self):
        self.assertRaises(BadStanding, slides, SQUARE, (0, 1, None))
        self.assertRaises(BadStanding, slides_to, SQUARE, (0, 1, None, 2), (0, 1, None))

    def test_wrong_slides(self):
        for value in WRONG_SLIDES:
            with self.subTest(value=value):
                self.assertRaises(BadSlide, behind_slide, PATH, (0, 1, None), value)

    def test_truths_in_a_slide(self):
        self.assertEqual(behind_slide(PATH, (0, None, 1), (0, 1)), (None, 0, 1))
        for value in [(False, True), (0, True), (False, 1)]:
            self.assertRaises(BadSlide, behind_slide, PATH, (0, None, 1), value)

    def test_the_leftmost_error_comes(self):
        self.assertRaises(BadStanding, behind_slide, PATH, (0, 0, None), None)
        self.assertRaises(BadYard, behind_slide, 5, (0, 0, None), None)
        self.assertRaises(BadStanding, slides_to, PATH, (0, 1, None), (0, True, None))

    def test_no_way_comes_behind_a_wrong_standing(self):
        with self.assertRaises(BadStanding):
            slides_to(PATH, (0, None, None), (None, None, None))

    def test_all_are_store_errors(self):
        for call in [
            lambda: slides(None, None),
            lambda: slides(PATH, None),
            lambda: behind_slide(PATH, (0, 1, None), None),
            lambda: slides_to(PATH, (0, 1, None), (1, 0, None)),
        ]:
            self.assertRaises(StoreError, call)


if __name__ == "__main__":
    unittest.main()
