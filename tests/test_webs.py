"""Promises 1, 2 and 3: yards, parting places, sides, pieces and their kinds."""

import unittest
from itertools import permutations, product
from math import factorial

from holestore.errors import BadPlace, BadYard, StoreError
from holestore.webs import kind, parting, pieces, two_sided
from holestore.yards import count_standings
from tests import samples
from tests.samples import (ALL_TIED, BOW, HOUSE, KITE, NO_NUMBERS, NO_TUPLES, PAIR, PATH, RING_OF_SEVEN, RING_OF_SIX,
                           SEVEN, SQUARE, THREE_BY_FOUR, TRIANGLE, WRONG_YARDS)

SMALL_WEBS = [(places, ties) for places in range(2, 6) for ties in samples.all_webs(places)]


def slow_pieces(places, ties):
    """Return the pieces as point 3 words them: ties beside one another, joined until nothing changes."""
    groups = [{tie} for tie in ties]
    for first in ties:
        for second in ties:
            shared = [place for place in first if place in second]
            if len(shared) == 1:
                one, other = sum(first) - shared[0], sum(second) - shared[0]
                if samples.hang_without(shared[0], one, other, places, ties):
                    groups = joined(groups, first, second)
    return [sorted(group) for group in groups]


def joined(groups, first, second):
    touched = [group for group in groups if first in group or second in group]
    return [group for group in groups if group not in touched] + [set().union(*touched)]


def places_at(ties):
    return tuple(sorted({place for tie in ties for place in tie}))


def slow_two_sided(places, ties):
    return any(all(side[one] != side[other] for one, other in ties) for side in product((0, 1), repeat=places))


def factor(word, many):
    """Return what a piece gives to the number of standings with the same empty place (point 7)."""
    whole = factorial(many - 1)
    return {"tie": 1, "ring": many - 1, "seven": 120, "sides": whole // 2, "free": whole}[word]


class Yards(unittest.TestCase):

    def test_wrong_yards(self):
        for value, part in WRONG_YARDS:
            for call in (parting, two_sided, pieces, lambda yard: kind(yard, 0, 1)):
                with self.subTest(value=value, call=call):
                    with self.assertRaises(BadYard) as caught:
                        call(value)
                    self.assertEqual(caught.exception.part, part)

    def test_errors_are_store_errors(self):
        with self.assertRaises(StoreError):
            parting(None)
        with self.assertRaises(ValueError):
            kind(PATH, 0, 2)

    def test_fewest_and_most_places(self):
        self.assertEqual(parting(PAIR), ())
        self.assertEqual(parting(ALL_TIED), ())
        self.assertEqual(parting((7, tuple((k, k + 1) for k in range(6)), 6)), (1, 2, 3, 4, 5))

    def test_the_gate_changes_nothing_here(self):
        for gate in range(4):
            yard = (4, KITE[1], gate)
            self.assertEqual((parting(yard), pieces(yard)), ((2,), ((0, 1, 2), (2, 3))))


class Webs(unittest.TestCase):

    def test_example(self):
        yard = (4, ((0, 1), (0, 2), (1, 2), (2, 3)), 0)
        self.assertEqual(
            [parting(yard), pieces(yard), kind(yard, 0, 1), kind(yard, 3, 2), two_sided(yard)],
            [(2,), ((0, 1, 2), (2, 3)), "ring", "tie", False])

    def test_webs_without_parting_places(self):
        for yard in (PAIR, TRIANGLE, SQUARE, HOUSE, RING_OF_SEVEN, SEVEN, THREE_BY_FOUR, ALL_TIED):
            with self.subTest(yard=yard):
                self.assertEqual(parting(yard), ())
                self.assertEqual(pieces(yard), (tuple(range(yard[0])),))

    def test_parting_of_all_small_webs(self):
        for places, ties in SMALL_WEBS:
            expected = tuple([place for place in range(places)
                              if not samples.hangs([k for k in range(places) if k != place], ties)])
            with self.subTest(ties=ties):
                self.assertEqual(parting((places, ties, 0)), expected)

    def test_two_sided_of_all_small_webs(self):
        for places, ties in SMALL_WEBS:
            with self.subTest(ties=ties):
                self.assertIs(two_sided((places, ties, 0)), slow_two_sided(places, ties))

    def test_two_sided_of_larger_webs(self):
        self.assertIs(two_sided(PAIR), True)
        self.assertIs(two_sided(THREE_BY_FOUR), True)
        self.assertIs(two_sided((6, tuple(RING_OF_SIX), 0)), True)
        self.assertIs(two_sided(RING_OF_SEVEN), False)
        self.assertIs(two_sided(SEVEN), False)
        self.assertIs(two_sided(ALL_TIED), False)

    def test_pieces_of_all_small_webs(self):
        for places, ties in SMALL_WEBS:
            expected = tuple(sorted([places_at(group) for group in slow_pieces(places, ties)]))
            with self.subTest(ties=ties):
                self.assertEqual(pieces((places, ties, 0)), expected)

    def test_pieces_that_meet_at_one_place(self):
        self.assertEqual(pieces(BOW), ((0, 1, 2), (2, 3, 4)))
        self.assertEqual(pieces((7, tuple((0, k) for k in range(1, 7)), 0)), tuple((0, k) for k in range(1, 7)))
        self.assertEqual(
            pieces((7, ((0, 3), (0, 6), (1, 2), (1, 3), (2, 4), (3, 4), (3, 6), (5, 6)), 0)),
            ((0, 3, 6), (1, 2, 3, 4), (5, 6)))

    def test_values_are_new_tuples(self):
        self.assertIsInstance(parting(KITE), tuple)
        self.assertTrue(all(isinstance(piece, tuple) for piece in pieces(KITE)))
        self.assertEqual(pieces(KITE), pieces((4, tuple(list(KITE[1])), 0)))


class Kinds(unittest.TestCase):

    def test_each_kind(self):
        self.assertEqual(kind(PAIR, 0, 1), "tie")
        self.assertEqual(kind(PATH, 2, 1), "tie")
        self.assertEqual(kind(TRIANGLE, 0, 2), "ring")
        self.assertEqual(kind(SQUARE, 3, 0), "ring")
        self.assertEqual(kind(RING_OF_SEVEN, 6, 0), "ring")
        self.assertEqual(kind(SEVEN, 6, 3), "seven")
        self.assertEqual(kind(THREE_BY_FOUR, 0, 6), "sides")
        self.assertEqual(kind((5, ((0, 2), (0, 3), (0, 4), (1, 2), (1, 3), (1, 4)), 0), 4, 1), "sides")
        self.assertEqual(kind(HOUSE, 0, 2), "free")
        self.assertEqual(kind(ALL_TIED, 5, 6), "free")

    def test_the_kind_is_that_of_the_piece(self):
        for one, other in BOW[1]:
            self.assertEqual(kind(BOW, one, other), "ring")
        tailed = (6, ((0, 1), (0, 3), (1, 2), (1, 3), (2, 3), (3, 4), (4, 5)), 0)
        self.assertEqual([kind(tailed, one, other) for one, other in tailed[1]], ["free"] * 5 + ["tie"] * 2)

    def test_sides_are_those_of_the_piece_alone(self):
        # A triangle hangs at a piece of two sides; neither changes the other's kind.
        ties = ((0, 2), (0, 3), (0, 4), (1, 2), (1, 3), (1, 4), (4, 5), (4, 6), (5, 6))
        self.assertEqual(kind((7, ties, 0), 0, 4), "sides")
        self.assertEqual(kind((7, ties, 0), 4, 5), "ring")
        self.assertFalse(two_sided((7, ties, 0)))

    def test_seven_under_all_names_of_places(self):
        for order in list(permutations(range(7)))[::37]:
            ties = samples.relabelled(SEVEN[1], order)
            with self.subTest(ties=ties):
                self.assertEqual([kind((7, ties, 0), one, other) for one, other in ties], ["seven"] * 8)

    def test_not_quite_seven(self):
        def with_seventh(*ends):
            return (7, tuple(sorted(RING_OF_SIX + [(end, 6) for end in ends])), 0)
        self.assertEqual(kind(with_seventh(0, 1), 0, 6), "free")
        self.assertEqual(kind(with_seventh(0, 2), 0, 6), "sides")
        self.assertEqual(kind(with_seventh(0, 4), 0, 6), "sides")
        self.assertEqual(kind(with_seventh(1, 4), 1, 6), "seven")
        self.assertEqual(kind(with_seventh(2, 5), 5, 6), "seven")
        self.assertEqual(kind(with_seventh(0, 3, 4), 3, 6), "free")
        self.assertEqual(kind(with_seventh(0, 2, 4), 4, 6), "sides")
        self.assertEqual(kind(with_seventh(0), 0, 1), "ring")
        with_chord = (7, tuple(sorted(list(SEVEN[1]) + [(1, 4)])), 0)
        self.assertEqual(kind(with_chord, 0, 6), "free")
        # Two ways of three ties and one of one between two places: six places, eight ties make no seven.
        self.assertEqual(kind((6, tuple(sorted(RING_OF_SIX + [(0, 3)])), 0), 0, 1), "sides")
        # Ways of one, three and four ties between places 0 and 3.
        self.assertEqual(kind((7, ((0, 1), (0, 3), (0, 6), (1, 2), (2, 3), (3, 4), (4, 5), (5, 6)), 0), 0, 3), "free")

    def test_kinds_of_small_webs_tell_how_many_standings_come(self):
        for places, ties in SMALL_WEBS:
            yard = (places, ties, 0)
            many = places
            for group in slow_pieces(places, ties):
                many *= factor(kind(yard, *group[0]), len(places_at(group)))
            with self.subTest(ties=ties):
                self.assertEqual(count_standings(yard, tuple(range(places - 1)) + (None,)), many)

    def test_all_ties_of_a_piece_have_its_kind(self):
        for places, ties in SMALL_WEBS:
            yard = (places, ties, 0)
            for group in slow_pieces(places, ties):
                words = {kind(yard, one, other) for one, other in group} | {kind(yard, b, a) for a, b in group}
                with self.subTest(group=group):
                    self.assertEqual(len(words), 1)

    def test_wrong_places(self):
        for wrong in NO_NUMBERS + NO_TUPLES[6:] + [-1, 3, 10 ** 30]:
            if wrong in (0, 1) and not isinstance(wrong, bool):
                continue
            with self.subTest(wrong=wrong):
                with self.assertRaises(BadPlace):
                    kind(PATH, wrong, 1)
                with self.assertRaises(BadPlace):
                    kind(PATH, 1, wrong)
                with self.assertRaises(BadPlace):
                    kind(PATH, wrong, wrong)

    def test_places_that_are_not_tied(self):
        for one, other in [(0, 2), (2, 0), (0, 0), (1, 1), (2, 2)]:
            with self.subTest(one=one, other=other):
                with self.assertRaises(BadPlace):
                    kind(PATH, one, other)

    def test_the_yard_is_asked_first(self):
        with self.assertRaises(BadYard):
            kind((3, ((0, 1),), 0), 9, None)
        with self.assertRaises(BadYard):
            kind(None, None, None)


if __name__ == "__main__":
    unittest.main()
