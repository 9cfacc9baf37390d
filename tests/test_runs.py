"""Promises 1, 8 and 9: instructions, programs, inputs, and runs on a still memory and in a yard."""

import random
import unittest

from holestore.errors import BadInputs, BadNumber, BadProgram, BadStanding, BadYard
from holestore.runs import run_still, run_yard
from tests import slow
from tests.samples import PAIR, PATH, SQUARE, TRIANGLE, WRONG_STANDINGS, WRONG_YARDS
from tests.wrongs import MILLION, RIGHT_PROGRAMS, SAY, SLIDES, WRONG_INPUTS, WRONG_KEPT, WRONG_PROGRAMS, numbers_but

MIDDLE = (3, PATH[1], 1)
HELD = (0, None, 1)


def random_instruction(chance, books, many):
    word = chance.choice(["get", "plus", "minus", "set", "put", "say", "ask", "zero", "go", "stop", "say", "zero"])
    if word in slow.WITH_BOOKS:
        return (word, chance.randrange(books))
    if word == "put":
        return (word, chance.randrange(-2, 3))
    if word in ("zero", "go"):
        return (word, chance.randrange(many + 1))
    return (word,)


class Still(unittest.TestCase):

    def test_example(self):
        program = (("ask",), ("set", 1), ("say",))
        yard = (2, ((0, 1),), 0)
        self.assertEqual(
            [run_still(2, program, (7,), 9), run_yard(yard, (0, None), ((("get", 0),) + program[2:]), (), 9),
             run_yard((3, ((0, 1), (1, 2)), 1), (0, None, 1), program[:1] + (("slide", 2, 1),) + program[1:], (7,), 9),
             run_yard((3, ((0, 1), (1, 2)), 1), (0, None, 1), program, (7,), 9)],
            [((7,), "stopped", 3), ((0,), "stopped", 2), ((7,), "stopped", 4), ((), "stuck", 1)])

    def test_each_instruction(self):
        program = (("put", 5), ("set", 0), ("put", 7), ("minus", 0), SAY, ("plus", 0), SAY, ("get", 0), SAY, ("get", 1),
                   SAY, ("minus", 0), SAY, ("ask",), SAY, ("ask",), SAY)
        self.assertEqual(run_still(2, program, (9,), 99), ((2, 7, 5, 0, -5, 9, 0), "stopped", 17))

    def test_all_are_0_at_first(self):
        program = (SAY,) + tuple([row for book in range(6) for row in (("put", 3), ("get", book), SAY)])
        self.assertEqual(run_still(6, program, (), 99), ((0,) * 7, "stopped", 19))

    def test_zero(self):
        program = (("ask",), ("zero", 4), ("put", 1), SAY, ("put", 2), SAY)
        self.assertEqual(run_still(1, program, (0,), 99), ((2,), "stopped", 4))
        self.assertEqual(run_still(1, program, (5,), 99), ((1, 2), "stopped", 6))
        self.assertEqual(run_still(1, program, (-5,), 99), ((1, 2), "stopped", 6))

    def test_inputs_that_run_out(self):
        program = (("ask",), SAY, ("zero", 4), ("go", 0), ("ask",), SAY)
        self.assertEqual(run_still(1, program, (3, 4), 99), ((3, 4, 0, 0), "stopped", 11))
        self.assertEqual(run_still(1, program, (), 99), ((0, 0), "stopped", 5))
        self.assertEqual(run_still(1, program, (0, 8), 99), ((0, 8), "stopped", 5))
        self.assertEqual(run_still(1, (("ask",), SAY, ("go", 0)), (1,) * 50, 104),
                         ((1,) * 50 + (0, 0), "running", 104))

    def test_numbers_grow_as_they_must(self):
        program = (("put", MILLION), ("set", 0), ("plus", 0), ("set", 0), ("go", 2))
        said, word, many = run_still(1, program + (SAY,), (), 20000)
        self.assertEqual((said, word, many), ((), "running", 20000))
        program = (("put", MILLION),) + (("set", 0), ("plus", 0)) * 9 + (SAY,)
        self.assertEqual(run_still(1, program, (), 99), ((MILLION * 512,), "stopped", 20))
        program = (("put", -MILLION),) + (("set", 0), ("plus", 0)) * 9 + (SAY,)
        self.assertEqual(run_still(1, program, (), 99), ((-MILLION * 512,), "stopped", 20))

    def test_very_great_numbers(self):
        # Each round doubles the number; the first input of 0 lets it be said.
        program = (("put", 1), ("set", 0), ("get", 0), ("plus", 0), ("set", 0), ("ask",), ("zero", 8), ("go", 2),
                   ("get", 0), SAY)
        self.assertEqual(run_still(1, program, (1,) * 50, 999), ((2 ** 51,), "stopped", 2 + 51 * 5 + 2))

    def test_go_and_stop_take_no_tick(self):
        self.assertEqual(run_still(1, (("go", 2), SAY, ("go", 3), SAY, ("stop",), SAY), (), 99), ((0,), "stopped", 1))
        self.assertEqual(run_still(1, (("stop",),), (), 0), ((), "stopped", 0))
        self.assertEqual(run_still(1, (("go", 1),), (), 0), ((), "stopped", 0))
        self.assertEqual(run_still(1, (SAY, ("go", 3), SAY, ("stop",)), (), 1), ((0,), "stopped", 1))

    def test_gos_that_never_come_to_another_instruction(self):
        for program in [(("go", 0),), (("go", 1), ("go", 0)), (("go", 2), SAY, ("go", 3), ("go", 2))]:
            for most in (0, 1, 20000):
                self.assertEqual(run_still(1, program, (), most), ((), "stopped", 0))
        self.assertEqual(run_still(1, (SAY, ("go", 2), ("go", 1)), (), 9), ((0,), "stopped", 1))
        self.assertEqual(run_still(1, (("zero", 2), SAY, ("go", 3), ("go", 2)), (), 9), ((), "stopped", 1))

    def test_jumps_to_the_end(self):
        self.assertEqual(run_still(1, (("zero", 2), SAY), (), 9), ((), "stopped", 1))
        self.assertEqual(run_still(1, (("go", 2), SAY), (), 9), ((), "stopped", 0))
        self.assertEqual(run_still(1, (("put", 1), ("zero", 3), SAY), (), 9), ((1,), "stopped", 3))

    def test_most(self):
        program = (SAY, SAY, SAY)
        for most, word in [(0, "running"), (1, "running"), (2, "running"), (3, "stopped"), (4, "stopped")]:
            self.assertEqual(run_still(1, program, (), most), ((0,) * min(most, 3), word, min(most, 3)))
        for most in (0, 1, 19999, 20000):
            self.assertEqual(run_still(1, (SAY, ("go", 0)), (), most), ((0,) * most, "running", most))

    def test_programs_of_one_and_of_twenty(self):
        self.assertEqual(run_still(1, (SAY,), (), 9), ((0,), "stopped", 1))
        self.assertEqual(run_still(6, (("set", 5),) * 20, (), 99), ((), "stopped", 20))
        self.assertEqual(run_still(1, (("go", 20),) * 20, (), 99), ((), "stopped", 0))

    def test_random_programs(self):
        chance = random.Random(8)
        for _ in range(800):
            books, many = chance.randrange(1, 7), chance.randrange(1, 21)
            program = tuple([random_instruction(chance, books, many) for _ in range(many)])
            inputs = tuple([chance.randrange(-1, 2) for _ in range(chance.randrange(6))])
            most = chance.choice([0, 1, 5, 60])
            with self.subTest(program=program, inputs=inputs, most=most):
                self.assertEqual(run_still(books, program, inputs, most), slow.run(program, inputs, most))


class InAYard(unittest.TestCase):

    def test_an_instruction_that_names_a_book_is_stuck(self):
        for word in slow.WITH_BOOKS:
            self.assertEqual(run_yard(MIDDLE, HELD, ((word, 0),), (), 9), ((), "stuck", 0))
            self.assertEqual(run_yard(MIDDLE, (0, 1, None), ((word, 0),), (), 9), ((), "stuck", 0))
            self.assertEqual(run_yard(MIDDLE, (0, 1, None), ((word, 1),), (), 9), ((), "stopped", 1))

    def test_an_empty_gate(self):
        self.assertEqual(run_yard(PAIR, (None, 0), (SAY, ("get", 0)), (), 9), ((0,), "stuck", 1))
        self.assertEqual(run_yard(PAIR, (None, 0), (("slide", 1, 0), ("get", 0)), (), 9), ((), "stopped", 2))

    def test_slides_that_cannot_be_done(self):
        for slide in [(0, 0), (0, 2), (1, 0), (1, 1), (1, 2), (2, 0), (2, 2)]:
            program = (SAY, ("slide",) + slide, SAY)
            self.assertEqual(run_yard(MIDDLE, HELD, program, (), 9), ((0,), "stuck", 1))
        self.assertEqual(run_yard(MIDDLE, (0, None, None), (("slide", 2, 1),), (), 9), ((), "stuck", 0))

    def test_slides_move_the_books(self):
        program = (("put", 5), ("slide", 0, 1), ("set", 0), ("slide", 1, 0), ("slide", 2, 1), ("put", 6), ("set", 1),
                   ("slide", 1, 2), ("slide", 0, 1), ("get", 0), SAY)
        self.assertEqual(run_yard(MIDDLE, HELD, program, (), 99), ((5,), "stopped", 11))
        self.assertEqual(run_yard(TRIANGLE, (0, None, 1), (("slide", 0, 1), ("slide", 2, 0), ("get", 1)), (), 9),
                         ((), "stopped", 3))

    def test_several_empty_places(self):
        program = (("slide", 1, 0), ("get", 0), ("slide", 0, 3), ("slide", 2, 1), ("slide", 1, 0), ("get", 1))
        self.assertEqual(run_yard(SQUARE, (None, 0, 1, None), program, (), 9), ((), "stopped", 6))
        self.assertEqual(run_yard(SQUARE, (None, 0, 1, None), program[:5] + (("get", 0),), (), 9), ((), "stuck", 5))

    def test_stuck_only_with_a_tick_left(self):
        program = (SAY, ("slide", 0, 2), SAY)
        self.assertEqual(run_yard(MIDDLE, HELD, program, (), 0), ((), "running", 0))
        self.assertEqual(run_yard(MIDDLE, HELD, program, (), 1), ((0,), "running", 1))
        self.assertEqual(run_yard(MIDDLE, HELD, program, (), 2), ((0,), "stuck", 1))
        self.assertEqual(run_yard(MIDDLE, HELD, (("get", 0),), (), 0), ((), "running", 0))
        self.assertEqual(run_yard(MIDDLE, HELD, (("get", 0),), (), 1), ((), "stuck", 0))

    def test_stopped_with_no_tick_left(self):
        self.assertEqual(run_yard(MIDDLE, HELD, (("stop",),), (), 0), ((), "stopped", 0))
        self.assertEqual(run_yard(MIDDLE, HELD, (("slide", 0, 1), ("go", 3), SAY), (), 1), ((), "stopped", 1))

    def test_slides_for_ever(self):
        program = (("slide", 0, 1), ("slide", 1, 0), ("go", 0))
        self.assertEqual(run_yard(MIDDLE, HELD, program, (), 20000), ((), "running", 20000))

    def test_six_thousand_instructions(self):
        program = (("slide", 0, 1), ("slide", 1, 0)) * 3000
        self.assertEqual(run_yard(MIDDLE, HELD, program, (), 20000), ((), "stopped", 6000))
        self.assertEqual(run_yard(MIDDLE, HELD, (("go", 6000),) * 6000, (), 20000), ((), "stopped", 0))
        chain = tuple([("go", at + 1) for at in range(5999)]) + (SAY,)
        self.assertEqual(run_yard(MIDDLE, HELD, chain, (), 20000), ((0,), "stopped", 1))
        # Going on along so long a chain of gos takes no longer.
        chain = (SAY,) + tuple([("go", at + 1) for at in range(1, 5999)]) + (("go", 0),)
        self.assertEqual(run_yard(MIDDLE, HELD, chain, (), 20000), ((0,) * 20000, "running", 20000))

    def test_random_programs(self):
        chance = random.Random(9)
        words = set()
        for _ in range(1500):
            many = chance.randrange(1, 12)
            program = tuple([chance.choice([("slide", chance.randrange(3), chance.randrange(3)),
                                            random_instruction(chance, 2, many)]) for _ in range(many)])
            inputs = tuple([chance.randrange(-1, 2) for _ in range(chance.randrange(6))])
            most = chance.choice([0, 1, 5, 60])
            with self.subTest(program=program, inputs=inputs, most=most):
                told = run_yard(MIDDLE, HELD, program, inputs, most)
                words.add(told[1])
                self.assertEqual(told, slow.run(program, inputs, most, MIDDLE, HELD))
        self.assertEqual(words, {"stopped", "running", "stuck"})


class WrongArguments(unittest.TestCase):

    def test_right_programs(self):
        for program in RIGHT_PROGRAMS:
            run_still(2, program, (), 9)
            run_yard(MIDDLE, HELD, program, (), 9)
        for slide in SLIDES:
            run_yard(MIDDLE, HELD, (SAY, slide), (), 9)
        run_still(2, RIGHT_PROGRAMS[0], (MILLION, -MILLION, 0), 0)
        run_still(2, RIGHT_PROGRAMS[0], (0,) * 50, 20000)

    def raises_program(self, index, call, *values):
        with self.assertRaises(BadProgram) as caught:
            call(*values)
        self.assertEqual(caught.exception.index, index)
        self.assertNotIsInstance(caught.exception.index, bool)

    def test_wrong_programs(self):
        for value, index in WRONG_PROGRAMS:
            with self.subTest(value=value):
                self.raises_program(index, run_still, 2, value, (), 9)
                self.raises_program(index, run_still, 2, value, None, None)

    def test_wrong_kept_programs(self):
        for value, index in WRONG_KEPT:
            with self.subTest(value=value):
                self.raises_program(index, run_yard, MIDDLE, HELD, value, (), 9)
                self.raises_program(index, run_yard, MIDDLE, HELD, value, None, None)

    def test_books_of_the_program(self):
        for books in range(1, 7):
            run_still(books, (("get", books - 1),), (), 9)
            self.raises_program(1, run_still, books, (SAY, ("get", books)), (), 9)
        run_yard(PATH, (None, 0, None), (("get", 0),), (), 9)
        self.raises_program(0, run_yard, PATH, (None, 0, None), (("get", 1),), (), 9)

    def test_wrong_inputs(self):
        for value in WRONG_INPUTS:
            with self.subTest(value=value):
                self.assertRaises(BadInputs, run_still, 2, (SAY,), value, 9)
                self.assertRaises(BadInputs, run_still, 2, (SAY,), value, None)
                self.assertRaises(BadInputs, run_yard, MIDDLE, HELD, (SAY,), value, 9)
                self.assertRaises(BadInputs, run_yard, MIDDLE, HELD, (SAY,), value, None)

    def test_wrong_numbers(self):
        for value in numbers_but(1, 6):
            with self.subTest(value=value):
                self.assertRaises(BadNumber, run_still, value, None, None, None)
                self.assertRaises(BadNumber, run_still, value, (SAY,), (), 9)
        for value in numbers_but(0, 20000):
            with self.subTest(value=value):
                self.assertRaises(BadNumber, run_still, 2, (SAY,), (), value)
                self.assertRaises(BadNumber, run_yard, MIDDLE, HELD, (SAY,), (), value)

    def test_wrong_yards_and_standings(self):
        for value, part in WRONG_YARDS:
            with self.subTest(value=value):
                with self.assertRaises(BadYard) as caught:
                    run_yard(value, None, None, None, None)
                self.assertEqual(caught.exception.part, part)
        for value in WRONG_STANDINGS:
            with self.subTest(value=value):
                self.assertRaises(BadStanding, run_yard, PATH, value, None, None, None)


if __name__ == "__main__":
    unittest.main()
