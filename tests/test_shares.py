"""Promises 1, 13 and 15: the greatest worst share, and a kept program that has it."""

import random
import unittest

from holestore.errors import BadProgram, BadStanding, BadYard, NoWay, TooMany
from holestore.shares import kept_best, share
from holestore.walks import carries
from holestore.writing import can_be_kept, kept
from holestore.yards import count_standings
from tests import slow
from tests.samples import (BOW, HOUSE, KITE, PAIR, PATH, RING_OF_SEVEN, SQUARE, STAR, TRIANGLE, WRONG_STANDINGS,
                           WRONG_YARDS)
from tests.test_writing import random_case
from tests.wrongs import SAY, WRONG_PROGRAMS

MIDDLE = (3, PATH[1], 1)
HELD = (0, None, 1)
# Five places on which four books come to all 120 standings.
FIVE = (5, ((0, 1), (0, 3), (0, 4), (1, 2), (1, 4), (2, 3), (3, 4)), 0)
FIVE_HELD = (0, 1, 2, 3, None)
# The same with a sixth place, the gate: a book in the five never comes there; 144 standings.
TAILED = (6, FIVE[1] + ((4, 5),), 5)
TAILED_HELD = (0, None, 1, 2, 3, 4)


def endless_case(chance, yards):
    """Return a yard, a standing and a program at random, with books in most instructions and a jump back."""
    yard, standing, _ = random_case(chance, yards)
    books = len(standing) - standing.count(None)
    many = chance.randrange(2, 9)
    rows = []
    for _ in range(many):
        word = chance.choice(["get", "plus", "minus", "set", "set", "get", "zero", "ask"])
        rest = (chance.randrange(many + 1),) if word == "zero" else (chance.randrange(books),)
        rows.append((word,) if word == "ask" else (word,) + rest)
    return yard, standing, tuple(rows) + (("go", chance.randrange(many)),)


class Shares(unittest.TestCase):

    def test_example(self):
        self.assertEqual(
            [share((3, ((0, 1), (1, 2)), 1), (0, None, 1), (("get", 0), ("get", 1), ("go", 0))),
             share((2, ((0, 1),), 0), (0, None), (("get", 0), ("go", 0))),
             share((2, ((0, 1),), 0), (0, None), (("get", 0),))],
            [(1, 3), (1, 1), None])

    def check(self, yard, standing, program):
        """Check share and kept_best against slow readings, and return the share."""
        ratio = share(yard, standing, program)
        rows = kept_best(yard, standing, program)
        self.assertTrue(slow.carries(yard, standing, program, rows))
        self.assertTrue(carries(yard, standing, program, rows))
        found = slow.worst_share(yard, standing, program, rows)
        if ratio is None:
            self.assertIsNone(found)
        else:
            self.assertTrue(slow.is_share(yard, standing, program, ratio))
            self.assertEqual(found[0] * ratio[1], found[1] * ratio[0])
        return ratio

    def test_random_cases(self):
        chance = random.Random(14)
        ratios = {}
        for _ in range(600):
            some_case = chance.choice([random_case, endless_case, endless_case])
            yard, standing, program = some_case(chance, (PAIR, PATH, TRIANGLE, SQUARE, KITE, STAR))
            with self.subTest(yard=yard, standing=standing, program=program):
                if not can_be_kept(yard, standing, program):
                    self.assertRaises(NoWay, share, yard, standing, program)
                    self.assertRaises(NoWay, kept_best, yard, standing, program)
                else:
                    ratio = self.check(yard, standing, program)
                    ratios[ratio] = ratios.get(ratio, 0) + 1
        self.assertGreater(ratios[None], 50)
        self.assertGreater(ratios[(1, 1)], 50)
        self.assertGreater(len(ratios), 15)

    def test_larger_yards(self):
        for yard, standing, program in [
            (HOUSE, (0, 1, 2, None), (("get", 0), ("zero", 4), ("set", 1), ("go", 0), ("plus", 2), ("zero", 0))),
            (BOW, (0, None, 1, 2, 3), (("get", 0), ("get", 3), ("zero", 0), ("get", 1), ("go", 1))),
            (FIVE, FIVE_HELD, (("get", 0), ("zero", 3), ("get", 1), ("get", 3), ("go", 0))),
            (RING_OF_SEVEN, (0, 1, 2) + (None,) * 4, (("get", 2), ("zero", 0), ("get", 0), ("get", 1), ("zero", 0))),
        ]:
            with self.subTest(yard=yard):
                self.assertIsNotNone(self.check(yard, standing, program))

    def test_a_share_of_one(self):
        self.assertEqual(share(MIDDLE, HELD, (SAY, ("go", 0))), (1, 1))
        self.assertEqual(share(MIDDLE, HELD, (("get", 0), ("go", 0))), (1, 1))
        # The slides ahead of a round that is gone through for ever do not count.
        self.assertEqual(share(MIDDLE, HELD, (("get", 0), ("get", 1), ("go", 1))), (1, 1))
        self.assertEqual(share(TRIANGLE, (None, 0, 1), (("get", 0), ("get", 1), SAY, ("go", 2))), (1, 1))
        self.assertEqual(share(STAR, (0, None, None, None), (("zero", 0), ("get", 0), ("go", 0))), (1, 1))

    def test_instructions_by_ticks(self):
        # Each round: two instructions and four slides; the says are more instructions in as many slides.
        self.assertEqual(share(MIDDLE, HELD, (("get", 0), ("get", 1), ("go", 0))), (1, 3))
        self.assertEqual(share(MIDDLE, HELD, (("get", 0), SAY, ("get", 1), SAY, ("go", 0))), (1, 2))
        self.assertEqual(share(MIDDLE, HELD, (("get", 0),) + (SAY,) * 5 + (("get", 1),) * 7 + (("go", 0),)), (13, 17))
        # Three books that go round a ring of four places: four slides for each instruction.
        self.assertEqual(share(SQUARE, (0, 1, 2, None), (("get", 0), ("get", 1), ("get", 2), ("go", 0))), (1, 5))
        # With room enough, a book makes way and comes back in two slides, here as on a path.
        self.assertEqual(share(RING_OF_SEVEN, (0, 1) + (None,) * 5, (("get", 0), ("get", 1), ("go", 0))), (1, 3))

    def test_gos_and_stops_do_not_count(self):
        program = (("go", 2), ("stop",), ("get", 0), ("go", 5), SAY, ("go", 6), ("get", 1), ("go", 0))
        self.assertEqual(share(MIDDLE, HELD, program), (1, 3))

    def test_the_worst_course_counts(self):
        # One round of the zero needs no slides, the other one two, there and back.
        program = (("zero", 3), ("get", 0), ("go", 0), ("get", 0), ("get", 1), ("go", 0))
        self.assertEqual(self.check(MIDDLE, HELD, program), (3, 7))
        # A course may come to a round that it never leaves.
        program = (("zero", 0), ("get", 0), ("get", 1), ("go", 1))
        self.assertEqual(self.check(MIDDLE, HELD, program), (1, 3))
        # Courses that end do not count, however many slides they need.
        program = (SAY, ("zero", 0), ("get", 0), ("get", 1))
        self.assertEqual(self.check(MIDDLE, HELD, program), (1, 1))

    def test_waiting_by_slides_ahead_of_a_zero(self):
        # The gate may be cleared ahead of the zero or behind it: against the worst course it is all one.
        program = (("ask",), ("zero", 4), ("get", 0), ("go", 0), ("get", 1), ("go", 0))
        self.assertEqual(self.check(MIDDLE, HELD, program), (3, 5))
        waiting = (("ask",), ("zero", 6), ("slide", 0, 1), ("get", 0), ("slide", 1, 0), ("go", 0), ("slide", 2, 1),
                   ("get", 1), ("slide", 1, 2), ("go", 0))
        self.assertTrue(carries(MIDDLE, HELD, program, waiting))
        self.assertEqual(slow.worst_share(MIDDLE, HELD, program, waiting), (3, 5))
        # Here it does not pay: the book may stay at the gate.
        program = (("ask",), ("zero", 0), ("get", 0), ("go", 0))
        waiting = (("ask",), ("zero", 0), ("slide", 0, 1), ("get", 0), ("slide", 1, 0), ("go", 0))
        self.assertTrue(carries(MIDDLE, HELD, program, waiting))
        self.assertEqual(slow.worst_share(MIDDLE, HELD, program, waiting), (3, 5))
        self.assertEqual(self.check(MIDDLE, HELD, program), (1, 1))

    def test_the_nearest_slides_may_not_be_the_best(self):
        chance = random.Random(15)
        better = 0
        for _ in range(300):
            yard, standing, program = endless_case(chance, (SQUARE, HOUSE, STAR))
            if can_be_kept(yard, standing, program):
                ratio = share(yard, standing, program)
                if ratio is not None:
                    top, low = slow.worst_share(yard, standing, program, kept(yard, standing, program))
                    self.assertLessEqual(top * ratio[1], ratio[0] * low)
                    better += top * ratio[1] < ratio[0] * low
        self.assertGreater(better, 10)

    def test_all_courses_end(self):
        for program in [(("get", 0),), (("stop",),), (("go", 0),), (("zero", 2), ("get", 0), ("get", 1)),
                        (("get", 0), ("get", 1), ("go", 4), ("go", 0)), (SAY, ("go", 2), ("go", 1))]:
            with self.subTest(program=program):
                self.assertIsNone(self.check(MIDDLE, HELD, program))

    def test_lowest_terms(self):
        self.assertEqual(share(MIDDLE, HELD, (("get", 0), SAY, ("get", 1), SAY, ("go", 0))), (1, 2))
        self.assertEqual(share(MIDDLE, HELD, (("get", 0), ("get", 0), ("get", 1), ("get", 1), ("go", 0))), (1, 2))
        self.assertIsInstance(share(MIDDLE, HELD, (SAY, ("go", 0))), tuple)


class Limits(unittest.TestCase):

    def too_many(self, yard, standing, program):
        for call in (share, kept_best):
            with self.subTest(call=call, program=program):
                with self.assertRaises(TooMany) as caught:
                    call(yard, standing, program)
                self.assertEqual(caught.exception.most, 600)

    def test_six_hundred_moments(self):
        self.assertEqual(count_standings(FIVE, FIVE_HELD), 120)
        program = (("get", 0), ("get", 1), ("get", 2), ("get", 3))
        self.assertEqual(len(slow.moments(FIVE, FIVE_HELD, program + (SAY, ("go", 0)))), 600)
        ratio = share(FIVE, FIVE_HELD, program + (SAY, ("go", 0)))
        rows = kept_best(FIVE, FIVE_HELD, program + (SAY, ("go", 0)))
        top, low = slow.worst_share(FIVE, FIVE_HELD, program, rows)
        self.assertEqual(top * ratio[1], low * ratio[0])
        self.assertTrue(carries(FIVE, FIVE_HELD, program + (SAY, ("go", 0)), rows))
        self.too_many(FIVE, FIVE_HELD, program + (SAY, SAY, ("go", 0)))

    def test_more_where_all_courses_end(self):
        self.assertIsNone(share(FIVE, FIVE_HELD, (SAY,) * 5))
        self.assertTrue(carries(FIVE, FIVE_HELD, (SAY,) * 5, kept_best(FIVE, FIVE_HELD, (SAY,) * 5)))
        self.too_many(FIVE, FIVE_HELD, (SAY,) * 6)

    def test_only_moments_that_come_count(self):
        # What no jump leads to, gos and stops have no moments.
        self.assertEqual(share(FIVE, FIVE_HELD, (SAY, ("go", 0)) + (SAY,) * 18), (1, 1))
        self.assertEqual(share(FIVE, FIVE_HELD, (SAY, SAY, SAY, SAY, ("zero", 0), ("go", 6), ("stop",), SAY)), (1, 1))
        self.assertIsNone(share(FIVE, FIVE_HELD, (("zero", 6), SAY, SAY, SAY, SAY, ("stop",), ("stop",))))
        self.assertIsNone(share(FIVE, FIVE_HELD, (("stop",),) + (SAY,) * 19))

    def test_no_kept_program_and_too_many_moments(self):
        self.assertEqual(count_standings(TAILED, TAILED_HELD), 144)
        for call in (share, kept_best):
            self.assertRaises(NoWay, call, TAILED, TAILED_HELD, (SAY, SAY, SAY, ("get", 0)))
            # Nothing comes behind the instruction that is always stuck.
            self.assertRaises(NoWay, call, TAILED, TAILED_HELD, (SAY, SAY, SAY, ("get", 0)) + (SAY,) * 16)
        self.assertEqual(len(slow.moments(TAILED, TAILED_HELD, (SAY, SAY, SAY, ("get", 0), SAY))), 576)
        self.too_many(TAILED, TAILED_HELD, (SAY, SAY, SAY, SAY, ("get", 0)))
        self.too_many(TAILED, TAILED_HELD, (("zero", 3), ("get", 0), SAY, SAY, SAY, ("go", 2)))

    def test_no_way(self):
        for call in (share, kept_best):
            self.assertRaises(NoWay, call, PATH, HELD, (("get", 1),))
            self.assertRaises(NoWay, call, PATH, HELD, (("zero", 0), ("get", 1)))


class WrongArguments(unittest.TestCase):

    def test_wrong_yards_and_standings(self):
        for call in (share, kept_best):
            for value, part in WRONG_YARDS:
                with self.subTest(value=value):
                    with self.assertRaises(BadYard) as caught:
                        call(value, None, None)
                    self.assertEqual(caught.exception.part, part)
            for value in WRONG_STANDINGS:
                with self.subTest(value=value):
                    self.assertRaises(BadStanding, call, PATH, value, None)

    def test_wrong_programs(self):
        for call in (share, kept_best):
            for value, index in WRONG_PROGRAMS:
                with self.subTest(value=value):
                    with self.assertRaises(BadProgram) as caught:
                        call(MIDDLE, HELD, value)
                    self.assertEqual(caught.exception.index, index)

    def test_a_wrong_program_comes_before_the_others(self):
        for call in (share, kept_best):
            self.assertRaises(BadProgram, call, PATH, HELD, (("get", 1), ("get", True)))
            self.assertRaises(BadProgram, call, FIVE, FIVE_HELD, (SAY,) * 19 + (("put", True),))


if __name__ == "__main__":
    unittest.main()
