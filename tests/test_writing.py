"""Promises 1, 11 and 12: programs that are barred, programs written out, and all programs."""

import random
import unittest

from holestore.errors import BadNumber, BadProgram, BadStanding, BadYard, NoWay
from holestore.runs import run_still, run_yard
from holestore.universals import hardest, keeps_all
from holestore.walks import carries
from holestore.writing import barred, can_be_kept, kept
from tests import samples, slow
from tests.samples import (ALL_TIED, BOW, HOUSE, KITE, PAIR, PATH, RING_OF_SEVEN, SEVEN, SQUARE, STAR, THREE_BY_FOUR,
                           TRIANGLE, WRONG_STANDINGS, WRONG_YARDS)
from tests.test_runs import random_instruction
from tests.wrongs import SAY, WRONG_PROGRAMS, numbers_but

FULL = (0, 1, 2, 3, 4, 5, None)
MIDDLE = (3, PATH[1], 1)
HELD = (0, None, 1)
LONG_PATH = (7, tuple((k, k + 1) for k in range(6)), 3)
# The web of seven places in which a standing can be farthest from another: 63 slides.
FAR = (7, ((0, 1), (0, 2), (1, 3), (2, 4), (2, 6), (3, 5), (4, 6), (5, 6)), 0)


def slow_barred(yard, standing, program):
    """Return the least of the shortest ways to a book that never comes, from all ways, the shortest first."""
    came = samples.distances(yard, standing)
    at_gate = {here[yard[2]] for here in came}
    start = slow.settle(program, 0)
    ways = [(start,)] if start != -1 else []
    for _ in range(len(program)):
        later = []
        for way in ways:
            instruction = program[way[-1]]
            if instruction[0] in slow.WITH_BOOKS and instruction[1] not in at_gate:
                return way
            later.extend([way + (at,) for at in sorted(slow.next_instructions(program, way[-1]))
                          if at not in way and at != -1])
        ways = later
    return None


def random_case(chance, yards):
    """Return a yard, a standing and a program at random."""
    yard = chance.choice(yards)
    yard = yard[:2] + (chance.randrange(yard[0]),)
    books = chance.randrange(1, yard[0])
    standing = list(range(books)) + [None] * (yard[0] - books)
    chance.shuffle(standing)
    many = chance.randrange(1, 11)
    return yard, tuple(standing), tuple([random_instruction(chance, books, many) for _ in range(many)])


class Barred(unittest.TestCase):

    def test_example(self):
        program = (("ask",), ("zero", 3), ("get", 0), ("get", 1))
        self.assertEqual(
            [barred((3, ((0, 1), (1, 2)), 0), (0, None, 1), program),
             can_be_kept((3, ((0, 1), (1, 2)), 1), (0, None, 1), program)],
            [(0, 1, 3), True])

    def test_barred_by_each_instruction_that_names_a_book(self):
        for word in slow.WITH_BOOKS:
            self.assertEqual(barred(PATH, HELD, (SAY, (word, 1))), (0, 1))
            self.assertIsNone(barred(PATH, HELD, (SAY, (word, 0))))

    def test_not_barred_where_it_cannot_stand(self):
        self.assertIsNone(barred(PATH, HELD, (SAY, ("stop",), ("get", 1))))
        self.assertIsNone(barred(PATH, HELD, (("go", 2), ("get", 1), SAY)))
        self.assertIsNone(barred(PATH, HELD, (("go", 0), ("get", 1))))
        self.assertIsNone(barred(PATH, HELD, (("go", 2), ("get", 1))))
        self.assertIsNone(barred(PATH, HELD, (("stop",),)))
        # Both ways of a zero count, also where the hand cannot be so.
        self.assertEqual(barred(PATH, HELD, (("put", 1), ("zero", 3), ("stop",), ("get", 1))), (0, 1, 3))

    def test_ways_leave_gos_out(self):
        self.assertEqual(barred(PATH, HELD, (("go", 2), SAY, ("zero", 4), ("go", 0), ("go", 5), ("get", 1))), (2, 5))

    def test_the_least_of_the_shortest(self):
        program = (("zero", 3), SAY, ("get", 1), ("zero", 1), ("get", 1))
        self.assertEqual(barred(PATH, HELD, program), (0, 1, 2))
        program = (("zero", 3), SAY, SAY, ("zero", 5), ("get", 1), ("get", 1))
        self.assertEqual(barred(PATH, HELD, program), (0, 3, 4))
        # A way may lead over instructions whose books come, and over a lesser instruction behind a greater one.
        program = (("go", 3), ("get", 0), ("get", 1), ("get", 0), ("go", 1))
        self.assertEqual(barred(PATH, HELD, program), (3, 1, 2))

    def test_several_empty_places(self):
        self.assertIsNone(barred(PATH, (None, None, 0), (("get", 0),)))
        self.assertIsNone(barred(LONG_PATH, (0, None, 1, None, 2, None, 3), (("get", 1), ("get", 2), ("get", 0))))
        far = (7, LONG_PATH[1], 0)
        self.assertEqual(barred(far, (0, None, 1, None, 2, None, 3), (("get", 0), ("get", 1))), (0, 1))

    def test_random_cases(self):
        chance = random.Random(11)
        ways = 0
        for _ in range(1500):
            yard, standing, program = random_case(chance, (PATH, KITE, BOW, STAR, (4, ((0, 1), (1, 2), (2, 3)), 0)))
            with self.subTest(yard=yard, standing=standing, program=program):
                expected = slow_barred(yard, standing, program)
                self.assertEqual(barred(yard, standing, program), expected)
                self.assertIs(can_be_kept(yard, standing, program), expected is None)
                ways += expected is not None
        self.assertGreater(ways, 100)


class Kept(unittest.TestCase):

    def check(self, yard, standing, program):
        rows = kept(yard, standing, program)
        self.assertIsInstance(rows, tuple)
        self.assertLessEqual(len(rows), 6000)
        self.assertTrue(slow.carries(yard, standing, program, rows))
        self.assertTrue(carries(yard, standing, program, rows))
        self.assertEqual(rows, kept(yard, standing, program))
        return rows

    def test_random_cases(self):
        chance = random.Random(12)
        lacking = 0
        for _ in range(1200):
            yard, standing, program = random_case(chance, (PAIR, PATH, TRIANGLE, SQUARE, KITE, HOUSE, BOW, STAR))
            with self.subTest(yard=yard, standing=standing, program=program):
                if slow_barred(yard, standing, program) is None:
                    self.check(yard, standing, program)
                else:
                    lacking += 1
                    self.assertRaises(NoWay, kept, yard, standing, program)
        self.assertGreater(lacking, 50)

    def test_it_does_what_the_program_does(self):
        chance = random.Random(13)
        for _ in range(400):
            yard, standing, program = random_case(chance, (PAIR, TRIANGLE, SQUARE, HOUSE))
            inputs = tuple([chance.randrange(-1, 2) for _ in range(6)])
            rows = kept(yard, standing, program)
            said, word, _ = run_still(6, program, inputs, 20000)
            in_yard, word_in_yard, _ = run_yard(yard, standing, rows, inputs, 20000)
            with self.subTest(yard=yard, standing=standing, program=program):
                self.assertEqual(word_in_yard, word)
                if word == "stopped":
                    self.assertEqual(in_yard, said)
                else:
                    self.assertEqual(in_yard, said[:len(in_yard)])

    def test_programs_without_books(self):
        for program in [(("stop",),), (("go", 0),), (("go", 1),), (SAY,), (SAY, ("go", 0)), (("zero", 0),),
                        (("zero", 1),), (("zero", 1), ("stop",)), (("zero", 2), ("go", 0), ("stop",))]:
            for yard, standing in [(PAIR, (0, None)), (MIDDLE, HELD), (PATH, (None, None, 0))]:
                with self.subTest(program=program):
                    self.check(yard, standing, program)

    def test_nothing_needless(self):
        self.assertEqual(kept(MIDDLE, HELD, (("ask",), ("set", 1))), (("ask",), ("slide", 2, 1), ("set", 1)))
        for program in [(("get", 0), SAY), (SAY,), (("go", 1),), (("stop",),), (("zero", 2), SAY), (("zero", 0),),
                        (SAY, ("zero", 0)), (("zero", 3), SAY, ("stop",), ("ask",)), (("get", 0), ("go", 0))]:
            with self.subTest(program=program):
                self.assertEqual(kept(PAIR, (0, None), program), program)

    def test_no_way(self):
        self.assertRaises(NoWay, kept, PATH, HELD, (("get", 1),))
        self.assertRaises(NoWay, kept, PATH, HELD, (("zero", 2), ("stop",), ("get", 1)))
        self.check(PATH, HELD, (("stop",), ("get", 1)))

    def test_programs_of_twenty_with_all_books(self):
        program = tuple([("get" if at % 2 else "set", at * 5 % 6) for at in range(19)]) + (("go", 0),)
        for yard in (RING_OF_SEVEN, SEVEN, THREE_BY_FOUR, ALL_TIED, FAR):
            with self.subTest(yard=yard):
                self.check(yard, FULL, program)

    def test_more_pairs_than_can_be_told_one_by_one(self):
        # Brought to the gate by the nearest slides, the books would come to far more than 3000 pairs.
        rows = []
        for at in range(6):
            rows.extend([("get", at), ("zero", (7 * at + 5) % 20), ("zero", (11 * at + 2) % 20)])
        rows = tuple(rows[:18]) + (("zero", 3), ("go", 0))
        for yard in (FAR, RING_OF_SEVEN, THREE_BY_FOUR):
            with self.subTest(yard=yard):
                self.check(yard, FULL, rows)

    def test_several_empty_places(self):
        self.check(SQUARE, (0, None, 1, None), (("get", 0), ("get", 1), ("zero", 0), ("go", 1)))
        self.check(STAR, (0, 1, None, None), (("get", 0), ("get", 1), ("go", 0)))
        self.check(ALL_TIED, (None, 0, None, 1, None, 2, None), (("get", 0), ("get", 1), ("get", 2), ("zero", 1)))


class AllPrograms(unittest.TestCase):

    def test_example(self):
        self.assertEqual([keeps_all((3, ((0, 1), (1, 2)), 0)), keeps_all((3, ((0, 1), (1, 2)), 1)), hardest(1)],
                         [False, True, (("ask",), ("zero", 0), ("get", 0), SAY)])

    def test_hardest(self):
        for books in range(1, 7):
            expected = [("ask",), ("zero", 0)]
            for book in range(books):
                expected += [("get", book), SAY]
            self.assertEqual(hardest(books), tuple(expected))

    def test_keeps_all_by_the_hardest(self):
        for places in range(2, 5):
            for ties in samples.all_webs(places):
                for gate in range(places):
                    yard = (places, ties, gate)
                    can = [slow_barred(yard, standing, hardest(places - 1)) is None
                           for standing in samples.all_standings_of(places, places - 1)]
                    with self.subTest(yard=yard):
                        self.assertIs(keeps_all(yard), all(can))
                        self.assertEqual(all(can), any(can))

    def test_larger_yards(self):
        for yard in (RING_OF_SEVEN, SEVEN, THREE_BY_FOUR, ALL_TIED, BOW):
            self.assertIs(keeps_all(yard), True)
        self.assertIs(keeps_all(LONG_PATH), False)
        self.assertIs(keeps_all((5, BOW[1], 4)), False)

    def test_wrong_arguments(self):
        for value in numbers_but(1, 6):
            with self.subTest(value=value):
                self.assertRaises(BadNumber, hardest, value)
        for value, part in WRONG_YARDS:
            with self.subTest(value=value):
                with self.assertRaises(BadYard) as caught:
                    keeps_all(value)
                self.assertEqual(caught.exception.part, part)


class WrongArguments(unittest.TestCase):

    def test_wrong_yards_and_standings(self):
        for call in (barred, can_be_kept, kept):
            for value, part in WRONG_YARDS:
                with self.subTest(value=value):
                    with self.assertRaises(BadYard) as caught:
                        call(value, None, None)
                    self.assertEqual(caught.exception.part, part)
            for value in WRONG_STANDINGS:
                with self.subTest(value=value):
                    self.assertRaises(BadStanding, call, PATH, value, None)

    def test_wrong_programs(self):
        for call in (barred, can_be_kept, kept):
            for value, index in WRONG_PROGRAMS:
                with self.subTest(value=value):
                    with self.assertRaises(BadProgram) as caught:
                        call(MIDDLE, HELD, value)
                    self.assertEqual(caught.exception.index, index)

    def test_a_wrong_program_comes_before_no_way(self):
        for call in (barred, can_be_kept, kept):
            with self.assertRaises(BadProgram) as caught:
                call(PATH, HELD, (("get", 1), ("get", True)))
            self.assertEqual(caught.exception.index, 1)
            with self.assertRaises(BadProgram) as caught:
                call(PATH, (0, None, None), (("get", 1),))
            self.assertEqual(caught.exception.index, 0)


if __name__ == "__main__":
    unittest.main()
