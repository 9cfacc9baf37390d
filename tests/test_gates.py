"""Promises 1, 17 and 18: other gates and other ties."""

import random
import unittest
from fractions import Fraction
from itertools import combinations

from holestore.errors import BadProgram, BadStanding, BadYard, NoWay, TooMany
from holestore.gates import best_gate, free_gates, freeing, gates_for, needed_ties
from holestore.rooms import is_free
from holestore.shares import share
from holestore.writing import can_be_kept
from tests import samples, slow
from tests.samples import (ALL_TIED, BOW, KITE, PAIR, PATH, RING_OF_SEVEN, SEVEN, SQUARE, STAR, THREE_BY_FOUR, TRIANGLE,
                           WRONG_STANDINGS, WRONG_YARDS)
from tests.test_shares import FIVE, FIVE_HELD, TAILED, TAILED_HELD, endless_case
from tests.test_writing import random_case, slow_barred
from tests.wrongs import SAY, WRONG_PROGRAMS

HELD = (0, None, 1)
LONG_PATH = (7, tuple((k, k + 1) for k in range(6)), 3)
PATH_OF_FOUR = (4, ((0, 1), (1, 2), (2, 3)), 1)
SMALL_WEBS = [(places, ties) for places in range(2, 5) for ties in samples.all_webs(places)]
SOME_LARGER_WEBS = [(5, ties) for ties in samples.all_webs(5)[::11]]


def slow_free(places, ties, gate):
    """Tell whether no place but the gate parts the web, by splits of the others."""
    for place in range(places):
        others = [other for other in range(places) if other != place]
        if place != gate and not samples.hangs(others, ties):
            return False
    return True


def slow_freeing(places, ties, gate):
    return tuple([pair for pair in combinations(range(places), 2)
                  if pair not in ties and slow_free(places, ties + (pair,), gate)])


def slow_needed(places, ties, gate):
    found = []
    for tie in ties:
        rest = [other for other in ties if other != tie]
        hangs = samples.hangs(list(range(places)), rest)
        if not hangs or (slow_free(places, ties, gate) and not slow_free(places, rest, gate)):
            found.append(tie)
    return tuple(found)


class Webs(unittest.TestCase):

    def test_example(self):
        path = (3, ((0, 1), (1, 2)), 0)
        self.assertEqual([free_gates(path), freeing(path), needed_ties(path),
                          best_gate(path, (0, None, 1), (("get", 0), ("go", 0)))],
                         [(1,), ((0, 2),), ((0, 1), (1, 2)), (0, (1, 1))])

    def test_small_webs(self):
        for places, ties in SMALL_WEBS + SOME_LARGER_WEBS:
            free = tuple([gate for gate in range(places) if slow_free(places, ties, gate)])
            for gate in range(places):
                yard = (places, ties, gate)
                with self.subTest(yard=yard):
                    self.assertEqual(free_gates(yard), free)
                    self.assertEqual(freeing(yard), slow_freeing(*yard))
                    self.assertEqual(needed_ties(yard), slow_needed(*yard))

    def test_a_yard_that_no_gate_makes_free(self):
        self.assertEqual(free_gates(LONG_PATH), ())
        self.assertEqual(freeing(LONG_PATH), ((0, 6),))
        self.assertEqual(needed_ties(LONG_PATH), LONG_PATH[1])
        self.assertEqual(free_gates(PATH_OF_FOUR), ())
        # With the gate at place 1 it need not be a ring.
        self.assertEqual(freeing((4, PATH_OF_FOUR[1], 0)), ((0, 3),))
        self.assertEqual(freeing(PATH_OF_FOUR), ((0, 3), (1, 3)))

    def test_freeing_a_free_yard(self):
        self.assertEqual(freeing(SQUARE), ((0, 2), (1, 3)))
        self.assertEqual(freeing((3, PATH[1], 1)), ((0, 2),))
        self.assertEqual(freeing(STAR), ())
        self.assertEqual(freeing((4, STAR[1], 0)), ((1, 2), (1, 3), (2, 3)))

    def test_two_places(self):
        for gate in (0, 1):
            yard = (2, PAIR[1], gate)
            self.assertEqual(free_gates(yard), (0, 1))
            self.assertEqual(freeing(yard), ())
            self.assertEqual(needed_ties(yard), ((0, 1),))

    def test_all_places_tied(self):
        self.assertEqual(free_gates(ALL_TIED), tuple(range(7)))
        self.assertEqual(freeing(ALL_TIED), ())
        self.assertEqual(needed_ties(ALL_TIED), ())
        # Of three places all tied, any tie may go that is not at the gate.
        self.assertEqual(needed_ties(TRIANGLE), ((0, 1), (0, 2)))
        self.assertEqual(freeing(TRIANGLE), ())

    def test_a_tie_without_which_the_places_do_not_hang_together(self):
        self.assertEqual(needed_ties(KITE), ((2, 3),))
        self.assertEqual(needed_ties((4, KITE[1], 2)), ((0, 2), (1, 2), (2, 3)))
        self.assertEqual(needed_ties(SQUARE), SQUARE[1])
        self.assertEqual(needed_ties(BOW), ((0, 2), (1, 2), (2, 3), (2, 4)))
        self.assertEqual(needed_ties((5, BOW[1], 0)), ())
        self.assertEqual(needed_ties(SEVEN), slow_needed(*SEVEN))

    def test_larger_webs(self):
        for yard in (RING_OF_SEVEN, SEVEN, THREE_BY_FOUR, LONG_PATH, BOW):
            self.assertEqual(freeing(yard), slow_freeing(*yard))
            self.assertEqual(needed_ties(yard), slow_needed(*yard))
            self.assertEqual(free_gates(yard), tuple([gate for gate in range(yard[0]) if slow_free(*yard[:2], gate)]))

    def test_wrong_yards(self):
        for call in (free_gates, freeing, needed_ties, lambda yard: gates_for(yard, None, None),
                     lambda yard: best_gate(yard, None, None)):
            for value, part in WRONG_YARDS:
                with self.subTest(value=value):
                    with self.assertRaises(BadYard) as caught:
                        call(value)
                    self.assertEqual(caught.exception.part, part)


class Programs(unittest.TestCase):

    def check(self, yard, standing, program):
        """Check gates_for and best_gate against each gate by itself, and return what best_gate tells."""
        yards = [yard[:2] + (gate,) for gate in range(yard[0])]
        gates = [each[2] for each in yards if slow_barred(each, standing, program) is None]
        with self.subTest(yard=yard, standing=standing, program=program):
            self.assertEqual(gates_for(yard, standing, program), tuple(gates))
            if not gates:
                self.assertRaises(NoWay, best_gate, yard, standing, program)
                return None
            found = best_gate(yard, standing, program)
            ratios = {gate: share(yards[gate], standing, program) for gate in gates}
            if ratios[gates[0]] is None:
                self.assertEqual(found, (gates[0], None))
            else:
                self.assertEqual(found[1], ratios[found[0]])
                self.assertTrue(slow.is_share(yards[found[0]], standing, program, found[1]))
                for gate in gates:
                    if gate < found[0]:
                        self.assertLess(Fraction(*ratios[gate]), Fraction(*found[1]))
                    else:
                        self.assertLessEqual(Fraction(*ratios[gate]), Fraction(*found[1]))
        return (found, len(gates), len(set(ratios.values())))

    def test_random_cases(self):
        chance = random.Random(17)
        found = []
        for _ in range(300):
            some_case = chance.choice([random_case, endless_case, endless_case])
            yards = (PAIR, PATH, TRIANGLE, SQUARE, KITE, STAR) + (PATH_OF_FOUR,) * 3
            found.append(self.check(*some_case(chance, yards)))
        self.assertGreater(found.count(None), 10)
        told = [each for each in found if each is not None]
        self.assertGreater(len([each for each in told if each[0][1] is None]), 20)
        self.assertGreater(len([each for each in told if each[2] > 1]), 3)
        self.assertGreater(len([each for each in told if each[0][0] > 0 and each[1] < 4]), 20)

    def test_the_yards_own_gate_is_no_matter(self):
        program = (("get", 0), ("get", 1), ("go", 0))
        for gate in range(3):
            self.assertEqual(gates_for((3, PATH[1], gate), HELD, program), (1,))
            self.assertEqual(best_gate((3, PATH[1], gate), HELD, program), (1, (1, 3)))

    def test_a_program_that_no_gate_lets_be_carried(self):
        path = PATH_OF_FOUR
        program = (("get", 0), ("get", 1), ("get", 2))
        self.assertEqual(gates_for(path, (0, 1, 2, None), program), ())
        for rest in [(), (("go", 0),)]:
            self.assertRaises(NoWay, best_gate, path, (0, 1, 2, None), program + rest)
        self.assertEqual(gates_for(path, (0, 1, 2, None), program[:2]), (1,))
        self.assertEqual(gates_for(path, (0, 1, 2, None), program[:1]), (0, 1))
        self.assertEqual(gates_for(path, (0, 1, 2, None), (SAY,)), (0, 1, 2, 3))

    def test_gates_of_like_share(self):
        self.assertEqual(best_gate(SQUARE, (0, 1, 2, None), (("get", 0), ("get", 1), ("get", 2), ("go", 0))),
                         (0, (1, 5)))
        self.assertEqual(best_gate((4, SQUARE[1], 3), (0, 1, 2, None), (SAY, ("go", 0))), (0, (1, 1)))
        self.assertEqual(best_gate((3, PATH[1], 2), HELD, (("get", 1), ("go", 0))), (1, (1, 1)))

    def test_a_later_gate_with_a_greater_share(self):
        # In the middle of the star two ties are enough; elsewhere the books make way for each other.
        star = (4, ((0, 3), (1, 3), (2, 3)), 0)
        program = (("get", 0), ("get", 1), ("go", 0))
        found = self.check(star, (0, 1, None, None), program)
        self.assertEqual(found[0], (3, (1, 3)))
        self.assertGreater(found[1], 1)
        self.assertGreater(found[2], 1)

    def test_all_courses_end(self):
        for program in [(("get", 1),), (("zero", 0), ("stop",), ("get", 1))[1:], (("zero", 2), ("get", 1))]:
            self.assertEqual(best_gate(PATH, HELD, program)[1], None)
        self.assertEqual(best_gate(PATH, HELD, (("get", 1),)), (1, None))
        self.assertEqual(best_gate(PATH, HELD, (("get", 0),)), (0, None))
        self.assertEqual(best_gate(PATH, HELD, (("go", 0),)), (0, None))
        # What it never comes to is no matter.
        self.assertEqual(best_gate(PATH, HELD, (("stop",), ("get", 1), ("go", 1))), (0, None))

    def test_too_many(self):
        program = (SAY,) * 6
        self.assertEqual(best_gate(FIVE, FIVE_HELD, program), (0, None))
        self.assertEqual(best_gate(TAILED, TAILED_HELD, (("get", 0),) * 20), (0, None))
        self.assertEqual(best_gate(FIVE, FIVE_HELD, program[1:] + (("go", 0),)), (0, (1, 1)))
        with self.assertRaises(TooMany) as caught:
            best_gate(FIVE, FIVE_HELD, program + (("go", 0),))
        self.assertEqual(caught.exception.most, 600)
        self.assertEqual(gates_for(FIVE, FIVE_HELD, program + (("go", 0),)), (0, 1, 2, 3, 4))

    def test_more_empty_places(self):
        self.assertEqual(gates_for(PATH, (0, None, None), (("get", 0),)), (0, 1, 2))
        self.assertEqual(gates_for(LONG_PATH, (0, 1) + (None,) * 5, (("get", 1),)), (1, 2, 3, 4, 5, 6))
        self.assertEqual(gates_for(LONG_PATH, (0, 1) + (None,) * 5, (("get", 0), ("get", 1))), (1, 2, 3, 4, 5))

    def test_larger_yards(self):
        full = (0, 1, 2, 3, 4, 5, None)
        program = tuple([("get", book) for book in range(6)])
        self.assertEqual(gates_for(ALL_TIED, full, program), tuple(range(7)))
        self.assertEqual(gates_for(LONG_PATH, full, program), ())
        self.assertEqual(gates_for(SEVEN, full, program), tuple(range(7)))

    def test_free_gates_are_gates_for_all_programs(self):
        for places, ties in SMALL_WEBS:
            standing = tuple(range(places - 1)) + (None,)
            program = tuple([("get", book) for book in range(places - 1)])
            self.assertEqual(gates_for((places, ties, 0), standing, program), free_gates((places, ties, 0)))

    def test_like_what_others_tell(self):
        chance = random.Random(18)
        for _ in range(60):
            yard, standing, program = random_case(chance, (PATH, STAR, KITE, BOW))
            self.assertEqual(yard[2] in gates_for(yard, standing, program), can_be_kept(yard, standing, program))
            self.assertEqual(yard[2] in free_gates(yard), is_free(yard))

    def test_wrong_arguments(self):
        for call in (gates_for, best_gate):
            for value in WRONG_STANDINGS:
                with self.subTest(value=value):
                    self.assertRaises(BadStanding, call, PATH, value, None)
            for value, index in WRONG_PROGRAMS:
                with self.subTest(value=value):
                    with self.assertRaises(BadProgram) as caught:
                        call(PATH, HELD, value)
                    self.assertEqual(caught.exception.index, index)

    def test_no_way_and_too_many_come_behind_a_wrong_program(self):
        path = PATH_OF_FOUR
        program = (("get", 0), ("get", 1), ("get", 2), ("get", True))
        self.assertRaises(BadProgram, best_gate, path, (0, 1, 2, None), program)
        self.assertRaises(BadProgram, best_gate, FIVE, FIVE_HELD, (SAY,) * 7 + (("go", 0), ("get", 4)))


if __name__ == "__main__":
    unittest.main()
