"""Promises 1 and 10: whether a kept program carries a program, and what goes wrong else."""

import random
import unittest

from holestore.errors import BadProgram, BadStanding, BadYard
from holestore.walks import carries, fault
from holestore.writing import kept
from tests import slow
from tests.samples import PAIR, PATH, SQUARE, WRONG_STANDINGS, WRONG_YARDS
from tests.test_runs import random_instruction
from tests.wrongs import RIGHT_PROGRAMS, SAY, SLIDES, WRONG_KEPT, WRONG_PROGRAMS

MIDDLE = (3, PATH[1], 1)
HELD = (0, None, 1)
THERE, BACK = ("slide", 0, 1), ("slide", 1, 0)
GET = ("get", 0)


class Faults(unittest.TestCase):

    def expect(self, program, kept_program, value, yard=MIDDLE, standing=HELD):
        with self.subTest(program=program, kept=kept_program):
            self.assertEqual(fault(yard, standing, program, kept_program), value)
            self.assertIs(carries(yard, standing, program, kept_program), value is None)

    def test_example(self):
        yard, program = (3, ((0, 1), (1, 2)), 1), (("ask",), ("set", 1))
        self.assertEqual(
            [fault(yard, (0, None, 1), program, program),
             carries(yard, (0, None, 1), program, (("ask",), ("slide", 2, 1), ("set", 1)))],
            [("stuck", (0, 1)), True])

    def test_the_same_instructions(self):
        self.expect((SAY,), (SAY,), None)
        self.expect((SAY,), (("ask",),), ("unlike", (0,)))
        self.expect((("put", 1),), (("put", 1),), None)
        self.expect((("put", 1),), (("put", 2),), ("unlike", (0,)))
        self.expect((SAY, SAY), (SAY, SAY), None)
        self.expect((GET,), (THERE, GET), None)
        self.expect((GET,), (THERE, ("plus", 0)), ("unlike", (0,)))
        self.expect((("set", 0),), (THERE, ("set", 0)), None)

    def test_programs_of_other_lengths(self):
        self.expect((SAY, SAY), (SAY,), ("unlike", (0, 1)))
        self.expect((SAY,), (SAY, SAY), ("unlike", (0, -1)))
        self.expect((("go", 1),), (SAY,), ("unlike", (-1,)))
        self.expect((SAY,), (("stop",),), ("unlike", (0,)))
        self.expect((("go", 0),), (("go", 1),), None)

    def test_ends_are_alike(self):
        ends = [(), (("stop",),), (("go", 1),), (("go", 2), ("go", 1)), (("go", 2),), (("stop",), SAY)]
        for one in ends:
            for other in ends:
                self.expect((SAY,) + one + (("stop",),), (SAY,) + other + (("stop",),), None)
        self.expect((SAY, ("stop",)), (SAY, SAY), ("unlike", (0, -1)))

    def test_gos_are_passed_over(self):
        self.expect((SAY, ("go", 0)), (SAY, SAY, ("go", 3), ("go", 0)), None)
        self.expect((SAY, ("go", 3), SAY, ("ask",)), (SAY, ("ask",)), None)
        self.expect((SAY, ("go", 3), SAY, ("ask",)), (SAY, SAY), ("unlike", (0, 3)))
        self.expect((("go", 2), SAY, ("ask",)), (SAY,), ("unlike", (2,)))

    def test_stuck_instructions(self):
        for word in slow.WITH_BOOKS:
            self.expect(((word, 0),), ((word, 0),), ("stuck", (0,)))
            self.expect(((word, 0),), (THERE, (word, 0)), None)
            self.expect(((word, 1),), (THERE, (word, 1)), ("stuck", (0,)))

    def test_stuck_slides(self):
        self.expect((SAY,), (BACK, SAY), ("stuck", (0,)))
        self.expect((SAY, SAY), (SAY, ("slide", 0, 0), SAY), ("stuck", (0, 1)))
        self.expect((SAY,), (SAY, ("slide", 0, 2)), ("stuck", (0, -1)))
        self.expect((SAY,), (THERE, ("slide", 2, 1), SAY), ("stuck", (0,)))

    def test_slides_at_the_end(self):
        self.expect((SAY,), (SAY, THERE), None)
        self.expect((SAY,), (SAY, THERE, BACK, THERE, ("stop",)), None)
        self.expect((("stop",),), (THERE,), None)
        self.expect((SAY,), (SAY, THERE, SAY), ("unlike", (0, -1)))

    def test_slides_for_ever(self):
        self.expect((SAY,), (THERE, BACK, ("go", 0)), ("stuck", (0,)))
        self.expect((SAY,), (SAY, THERE, BACK, ("go", 1)), ("stuck", (0, -1)))
        self.expect((SAY, ("go", 0)), (SAY, THERE, BACK, ("go", 0)), None)
        # The book goes round the square.
        around = (("slide", 0, 1), ("slide", 1, 2), ("slide", 2, 3), ("slide", 3, 0))
        self.expect((SAY,), around + (("go", 0),), ("stuck", (0,)), SQUARE, (0, None, None, None))
        self.expect((SAY,), around[:2] + (SAY,), None, SQUARE, (0, None, None, None))
        self.expect((SAY,), around * 5 + (SAY,), None, SQUARE, (0, None, None, None))

    def test_slides_for_ever_over_several_standings(self):
        # Three books go round a ring of four places: the first standing comes back after twelve slides.
        round_trip = (("slide", 2, 3), ("slide", 1, 2), ("slide", 0, 1), ("slide", 3, 0))
        self.expect((SAY,), round_trip + (("go", 0),), ("stuck", (0,)), SQUARE, (0, 1, 2, None))
        self.expect((SAY,), round_trip * 3 + (SAY,), None, SQUARE, (0, 1, 2, None))

    def test_both_ways_of_a_zero(self):
        program = (("zero", 2), SAY, ("ask",))
        self.expect(program, program, None)
        self.expect(program, (("zero", 3), SAY, ("ask",), ("ask",)), ("unlike", (0, 1, 2, -1)))
        self.expect(program, (("zero", 1), SAY, ("ask",)), ("unlike", (0, 2)))
        self.expect(program, (("zero", 4), SAY, ("ask",), ("stop",), ("ask",)), None)
        self.expect(program, (SAY, SAY, ("ask",)), ("unlike", (0,)))
        self.expect((SAY,), (("zero", 1),), ("unlike", (0,)))

    def test_a_zero_goes_the_same_way_in_both(self):
        # The hand is 0 at first, and yet both ways count.
        program = (("zero", 3), ("get", 0), ("get", 1), SAY)
        self.expect(program, (("zero", 1), SAY), ("unlike", (0, 1)))
        self.expect(program, (("zero", 6), THERE, ("get", 0), BACK, ("slide", 2, 1), ("get", 1), SAY), None)
        self.expect(program, (("zero", 5), THERE, ("get", 0), BACK, ("get", 1), SAY), ("stuck", (0, 1, 2)))

    def test_the_least_of_the_shortest_ways(self):
        # Wrong at 1, 2 behind the jump, and at 1 straight on: the lesser of two ways of one length.
        program = (("zero", 3), SAY, ("stop",), ("ask",))
        self.expect(program, (("zero", 2), ("ask",), SAY), ("unlike", (0, 1)))
        # A longer way is wrong at a lesser place.
        program = (("zero", 4), SAY, ("go", 0), SAY, ("ask",))
        self.expect(program, (("zero", 3), SAY, ("go", 4), SAY, ("put", 0)), ("unlike", (0, 4)))
        # The end is less than all instructions.
        program = (("zero", 2), SAY)
        self.expect(program, (("zero", 2), ("ask",), SAY), ("unlike", (0, -1)))

    def test_stuck_and_unlike_at_once(self):
        self.expect((("get", 1),), (("get", 0),), ("stuck", (0,)))
        self.expect((SAY,), (("get", 0),), ("stuck", (0,)))
        self.expect((("stop",),), (("get", 0),), ("stuck", (-1,)))
        # Both ways of the zero come to one instruction: here by an unlike one, there by a stuck one.
        for rows in [(("zero", 3), ("ask",), ("stop",), THERE, THERE, SAY),
                     (("zero", 3), THERE, THERE, ("ask",))]:
            self.expect((("zero", 1), SAY), rows, ("stuck", (0, 1)))
        self.expect((("zero", 1), SAY), (("zero", 3), SAY, ("stop",), ("ask",)), ("unlike", (0, 1)))

    def test_two_places_and_an_empty_gate(self):
        self.expect((GET,), (GET,), None, PAIR, (0, None))
        self.expect((GET,), (GET,), ("stuck", (0,)), PAIR, (None, 0))
        self.expect((GET,), (("slide", 1, 0), GET), None, PAIR, (None, 0))
        self.expect((GET, GET), (GET, ("slide", 0, 1), GET), ("stuck", (0, 1)), PAIR, (0, None))

    def test_several_empty_places(self):
        program = (("get", 0), ("get", 1), ("go", 0))
        rows = (("get", 0), ("slide", 0, 3), ("slide", 1, 0), ("get", 1), ("slide", 0, 1), ("slide", 3, 0), ("go", 0))
        self.expect(program, rows, None, SQUARE, (0, 1, None, None))
        self.expect(program, rows[:6] + (("go", 3),), ("stuck", (0, 1, 0)), SQUARE, (0, 1, None, None))

    def test_a_round_that_goes_wrong_later(self):
        # The book is where it must be in the first round, and not in the second.
        program = (GET, ("go", 0))
        self.expect(program, (THERE, GET, ("slide", 1, 2), ("go", 0)), ("stuck", (0, 0)), standing=(0, None, None))
        rows = (("slide", 0, 1), GET, ("slide", 1, 2), ("slide", 2, 1), GET, BACK, ("go", 0))
        self.expect(program, rows, None, standing=(0, None, None))

    def test_long_kept_programs(self):
        program = (SAY, ("go", 0))
        self.expect(program, (SAY,) * 5999 + (("go", 0),), None)
        self.expect(program, (SAY,) * 6000, ("unlike", (0,) * 6001))
        self.expect(program, (THERE, BACK) * 2999 + (SAY, ("go", 0)), None)
        self.expect(program, (THERE, BACK) * 2998 + (THERE, SAY, ("go", 0)), ("stuck", (0, 0)))

    def test_values_are_tuples(self):
        word, way = fault(MIDDLE, HELD, (GET,), (GET,))
        self.assertIsInstance(fault(MIDDLE, HELD, (GET,), (GET,)), tuple)
        self.assertIsInstance(word, str)
        self.assertIsInstance(way, tuple)


class RandomWalks(unittest.TestCase):

    def test_against_all_ways(self):
        chance = random.Random(10)
        words = set()
        for _ in range(3000):
            yard, standing = chance.choice([(MIDDLE, HELD), (PAIR, (0, None)), (SQUARE, (0, 1, None, None))])
            program = self.random_program(chance, standing)
            rows = self.random_rows(chance, yard, standing, program)
            expected = slow.fault_within(yard, standing, program, rows, 12)
            with self.subTest(yard=yard, program=program, rows=rows):
                told = fault(yard, standing, program, rows)
                self.assertIs(carries(yard, standing, program, rows), told is None)
                self.assertIs(slow.carries(yard, standing, program, rows), told is None)
                if expected != "far":
                    words.add(told if told is None else told[0])
                    self.assertEqual(told, expected)
        self.assertEqual(words, {None, "stuck", "unlike"})

    def random_program(self, chance, standing):
        books = len([book for book in standing if book is not None])
        many = chance.randrange(1, 7)
        return tuple([random_instruction(chance, books, many) for _ in range(many)])

    def random_rows(self, chance, yard, standing, program):
        """Return what kept returns, or the program itself, with a change at random."""
        rows = list(chance.choice([program, kept(yard, standing, program), kept(yard, standing, program)]))
        at = chance.randrange(len(rows))
        change = chance.randrange(4)
        if change == 0:
            rows[at] = random_instruction(chance, 1, len(rows))
        if change == 1:
            rows[at] = ("slide", chance.randrange(yard[0]), chance.randrange(yard[0]))
        if change == 2 and rows[at][0] in ("zero", "go"):
            rows[at] = (rows[at][0], chance.randrange(len(rows) + 1))
        return tuple(rows)


class WrongArguments(unittest.TestCase):

    def test_right_programs(self):
        for program in RIGHT_PROGRAMS:
            fault(MIDDLE, HELD, program, program)
        for slide in SLIDES:
            fault(MIDDLE, HELD, (SAY,), (slide,))

    def test_wrong_programs(self):
        for call in (fault, carries):
            for value, index in WRONG_PROGRAMS:
                for rest in ((SAY,), None, (None,)):
                    with self.subTest(value=value, rest=rest):
                        with self.assertRaises(BadProgram) as caught:
                            call(MIDDLE, HELD, value, rest)
                        self.assertEqual(caught.exception.index, index)

    def test_wrong_kept_programs(self):
        for call in (fault, carries):
            for value, index in WRONG_KEPT:
                with self.subTest(value=value):
                    with self.assertRaises(BadProgram) as caught:
                        call(MIDDLE, HELD, (SAY,), value)
                    self.assertEqual(caught.exception.index, index)

    def test_books_are_those_of_the_standing(self):
        for program, rows, index in [((SAY, ("get", 1)), (SAY,), 1), ((SAY,), (("get", 1),), 0)]:
            with self.assertRaises(BadProgram) as caught:
                fault(MIDDLE, (0, None, None), program, rows)
            self.assertEqual(caught.exception.index, index)

    def test_wrong_yards_and_standings(self):
        for call in (fault, carries):
            for value, part in WRONG_YARDS:
                with self.subTest(value=value):
                    with self.assertRaises(BadYard) as caught:
                        call(value, None, None, None)
                    self.assertEqual(caught.exception.part, part)
            for value in WRONG_STANDINGS:
                with self.subTest(value=value):
                    self.assertRaises(BadStanding, call, PATH, value, None, None)


if __name__ == "__main__":
    unittest.main()
