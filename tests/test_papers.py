"""Promises 1 and 14: papers that show the share of a program."""

import random
import unittest
from math import gcd

from holestore.errors import BadProgram, BadStanding, BadYard, NoWay, TooMany
from holestore.papers import share_paper, shows_share
from holestore.shares import share
from holestore.writing import can_be_kept
from tests import slow
from tests.samples import (BOW, HOUSE, KITE, NO_NUMBERS, NO_TUPLES, PAIR, PATH, RING_OF_SEVEN, SQUARE, STAR, TRIANGLE,
                           WRONG_STANDINGS, WRONG_YARDS)
from tests.test_shares import FIVE, FIVE_HELD, TAILED, TAILED_HELD, endless_case
from tests.test_writing import random_case
from tests.wrongs import MILLION, SAY, WRONG_PROGRAMS

MIDDLE = (3, PATH[1], 1)
HELD = (0, None, 1)
ROUND = (("get", 0), ("get", 1), ("go", 0))
LEFT, HERE, RIGHT = (None, 0, 1), HELD, (0, 1, None)
HEIGHTS = ((0, LEFT, 0), (0, HERE, 1), (0, RIGHT, 2), (1, LEFT, 2), (1, HERE, 1), (1, RIGHT, 0))
DEPTHS = ((0, LEFT, 2), (0, HERE, 1), (0, RIGHT, 0), (1, LEFT, 0), (1, HERE, 1), (1, RIGHT, 2))
PAPER = ((1, 3), HEIGHTS, DEPTHS)


def shows(value):
    return shows_share(MIDDLE, HELD, ROUND, value)


def raised(rows, more, times=1):
    """Return the rows with each number so many times as great, and more added to it."""
    return tuple([(at, here, number * times + more) for at, here, number in rows])


def changed(rows, place, number):
    """Return the rows with another number at a place."""
    return rows[:place] + (rows[place][:2] + (number,),) + rows[place + 1:]


def some_change(chance, paper):
    """Return a paper with a change at random."""
    ratio, heights, depths = paper
    side = chance.randrange(2)
    rows = list((heights, depths)[side])
    place = chance.randrange(len(rows))
    sort = chance.choice(["more", "less", "out", "all", "ratio"])
    if sort == "out":
        del rows[place]
    elif sort == "all":
        rows = list(raised(rows, chance.randrange(-1, 3)))
    elif sort == "ratio":
        low = chance.randrange(1, 8)
        ratio = (chance.randrange(1, low + 1), low)
    else:
        at, here, number = rows[place]
        rows[place] = (at, here, number + (1 if sort == "more" else -1))
    return (ratio, tuple(rows), depths) if side == 0 else (ratio, heights, tuple(rows))


class Papers(unittest.TestCase):

    def check(self, yard, standing, program):
        """Check the paper of a program that can be kept, and return it."""
        paper = share_paper(yard, standing, program)
        ratio = share(yard, standing, program)
        if ratio is None:
            self.assertIsNone(paper)
            self.assertIs(shows_share(yard, standing, program, paper), False)
            return paper
        self.assertEqual(paper[0], ratio)
        self.assertIs(shows_share(yard, standing, program, paper), True)
        self.assertTrue(slow.is_paper(yard, standing, program, paper))
        self.assertTrue(slow.is_share(yard, standing, program, paper[0]))
        return paper

    def test_random_cases(self):
        chance = random.Random(14)
        told = []
        for _ in range(500):
            some_case = chance.choice([random_case, endless_case, endless_case])
            yard, standing, program = some_case(chance, (PAIR, PATH, TRIANGLE, SQUARE, KITE, STAR))
            with self.subTest(yard=yard, standing=standing, program=program):
                if not can_be_kept(yard, standing, program):
                    self.assertRaises(NoWay, share_paper, yard, standing, program)
                    self.assertRaises(NoWay, shows_share, yard, standing, program, None)
                else:
                    paper = self.check(yard, standing, program)
                    told.append(paper and paper[0])
        self.assertGreater(told.count(None), 30)
        self.assertGreater(len(set(told)), 12)

    def test_random_changes(self):
        chance = random.Random(15)
        shown = []
        for _ in range(200):
            yard, standing, program = endless_case(chance, (PAIR, PATH, TRIANGLE, SQUARE, STAR))
            if not can_be_kept(yard, standing, program) or share(yard, standing, program) is None:
                continue
            paper = share_paper(yard, standing, program)
            for _ in range(6):
                paper = some_change(chance, paper)
                if not paper[1] or not paper[2]:
                    break
                with self.subTest(yard=yard, standing=standing, program=program, paper=paper):
                    expected = slow.is_paper(yard, standing, program, paper)
                    self.assertIs(shows_share(yard, standing, program, paper), expected)
                    shown.append(expected)
        self.assertGreater(shown.count(True), 50)
        self.assertGreater(shown.count(False), 50)

    def test_any_such_paper_will_do(self):
        chance = random.Random(16)
        for _ in range(100):
            yard, standing, program = endless_case(chance, (PATH, TRIANGLE, SQUARE, KITE))
            if can_be_kept(yard, standing, program) and share(yard, standing, program) is not None:
                ratio = share(yard, standing, program)
                heights, depths = slow.all_heights_and_depths(yard, standing, program, ratio)
                paper = (ratio, slow.told(heights), slow.told(depths))
                with self.subTest(yard=yard, standing=standing, program=program):
                    self.assertTrue(slow.is_paper(yard, standing, program, paper))
                    self.assertIs(shows_share(yard, standing, program, paper), True)

    def test_larger_yards(self):
        for yard, standing, program in [
            (HOUSE, (0, 1, 2, None), (("get", 0), ("zero", 4), ("set", 1), ("go", 0), ("plus", 2), ("zero", 0))),
            (BOW, (0, None, 1, 2, 3), (("get", 0), ("get", 3), ("zero", 0), ("get", 1), ("go", 1))),
            (FIVE, FIVE_HELD, (("get", 0), ("zero", 3), ("get", 1), ("get", 3), ("go", 0))),
            (RING_OF_SEVEN, (0, 1, 2) + (None,) * 4, (("get", 2), ("zero", 0), ("get", 0), ("get", 1), ("zero", 0))),
        ]:
            with self.subTest(yard=yard):
                self.assertIsNotNone(self.check(yard, standing, program))

    def test_values_are_tuples_in_their_order(self):
        ratio, heights, depths = share_paper(MIDDLE, HELD, ROUND)
        self.assertEqual(ratio, (1, 3))
        for rows in (heights, depths):
            self.assertIsInstance(rows, tuple)
            self.assertTrue(all(isinstance(row, tuple) and len(row) == 3 for row in rows))
            self.assertEqual(list(rows), sorted(rows, key=slow.paper_order))
            self.assertIn(HELD, [row[1] for row in rows if row[0] == 0])

    def test_all_courses_end(self):
        for program in [(("get", 0),), (("stop",),), (("go", 0),), (("zero", 2), ("get", 0), ("get", 1)),
                        (("get", 0), ("get", 1), ("go", 4), ("go", 0)), (SAY, ("go", 2), ("go", 1))]:
            with self.subTest(program=program):
                self.assertIsNone(self.check(MIDDLE, HELD, program))
                for value in (None, (), PAPER, ((1, 1), (), ()), ((1, 1), ((0, HELD, 0),), ((0, HELD, 0),))):
                    self.assertIs(shows_share(MIDDLE, HELD, program, value), False)

    def test_some_courses_end(self):
        # The end is a height of 0, and no depth: at instruction 2, where the program may end, it must go on.
        program = (("get", 0), ("get", 1), ("zero", 0))
        paper = self.check(MIDDLE, HELD, program)
        self.assertEqual(paper[0], (3, 7))
        # Where the ways of the zero are the end and nothing else, no depth is told.
        program = (("zero", 2), ("go", 0), SAY)
        paper = self.check(MIDDLE, HELD, program)
        self.assertEqual([row for row in paper[2] if row[0] == 2], [])
        heights = ((0, HELD, 0), (2, HELD, 0))
        depths = tuple([(0, here, 0) for here in (LEFT, HERE, RIGHT)])
        self.assertIs(shows_share(MIDDLE, HELD, program, ((1, 1), heights, depths)), True)
        self.assertIs(shows_share(MIDDLE, HELD, program, ((1, 1), heights[:1], depths)), False)
        for here in (LEFT, HERE, RIGHT):
            for number in (0, 1, MILLION):
                told = depths + ((2, here, number),)
                self.assertIs(shows_share(MIDDLE, HELD, program, ((1, 1), heights, told)), False)
        told = depths + ((2, LEFT, 0), (2, HERE, 0), (2, RIGHT, 0))
        self.assertIs(shows_share(MIDDLE, HELD, program, ((1, 1), heights, told)), False)


class Ratios(unittest.TestCase):

    def test_a_paper(self):
        self.assertIs(shows(PAPER), True)

    def test_not_in_lowest_terms(self):
        self.assertIs(shows(((2, 6), raised(HEIGHTS, 0, 2), raised(DEPTHS, 0, 2))), False)
        self.assertIs(shows(((333333, 999999), raised(HEIGHTS, 0, 333333), raised(DEPTHS, 0, 333333))), False)
        self.assertIs(shows(((-1, -3), HEIGHTS, DEPTHS)), False)

    def test_0_and_more_than_1(self):
        for ratio in [(0, 1), (0, 3), (1, 0), (0, 0), (4, 3), (3, 1), (-1, 3), (1, -3), (2, 1)]:
            self.assertIs(shows((ratio, HEIGHTS, DEPTHS)), False)
        # Heights show 0 always, and depths show whatever is more than 1.
        nothing = tuple([(at, here, 0) for at in (0, 1) for here in (LEFT, HERE, RIGHT)])
        for ratio in [(0, 1), (1, 1), (4, 3)]:
            self.assertIs(shows((ratio, nothing, nothing)), False)

    def test_one(self):
        rows = tuple([(0, here, 0) for here in (LEFT, HERE, RIGHT)])
        program = (SAY, ("go", 0))
        self.assertIs(shows_share(MIDDLE, HELD, program, ((1, 1), rows[1:2], rows)), True)
        self.assertIs(shows_share(MIDDLE, HELD, program, ((2, 2), rows[1:2], rows)), False)
        self.assertIs(shows_share(MIDDLE, HELD, program, ((1, True), rows[1:2], rows)), False)
        self.assertIs(shows_share(MIDDLE, HELD, program, ((MILLION, MILLION), rows[1:2], rows)), False)

    def test_a_great_low(self):
        for top, low in [(333334, MILLION + 1), (333333, MILLION), (333333, 999998), (10 ** 30, 3 * 10 ** 30 + 1)]:
            self.assertEqual(gcd(top, low), 1)
            self.assertIs(shows(((top, low), raised(HEIGHTS, 0, 333333), raised(DEPTHS, 0, 333333))), False)

    def test_just_beside_the_share(self):
        # Of these, heights bear out the lesser one, and depths the greater one, with room to spare.
        for ratio in [(333333, MILLION), (333334, MILLION - 1), (33, 100), (34, 100), (17, 50), (1, 4), (1, 2)]:
            top, low = ratio
            for times in (1, low // 3, low // 3 + 1, min(low, 499999)):
                heights, depths = raised(HEIGHTS, 0, times), raised(DEPTHS, 0, times)
                self.assertIs(shows((ratio, heights, depths)), False)
        heights, depths = slow.all_heights_and_depths(MIDDLE, HELD, ROUND, (33, 100))
        self.assertIn((0, HELD), heights)
        self.assertNotIn((0, HELD), depths)
        self.assertIs(shows(((33, 100), slow.told(heights), raised(DEPTHS, 0, 34))), False)
        heights, depths = slow.all_heights_and_depths(MIDDLE, HELD, ROUND, (17, 50))
        self.assertNotIn((0, HELD), heights)
        self.assertIn((0, HELD), depths)
        self.assertIs(shows(((17, 50), raised(HEIGHTS, 0, 17), slow.told(depths))), False)

    def test_no_ratio(self):
        for value in NO_TUPLES + [(), (1,), (1, 3, 3), [1, 3], {1: 3}, "13", ((1, 3),)]:
            self.assertIs(shows((value, HEIGHTS, DEPTHS)), False)
        for value in NO_NUMBERS:
            self.assertIs(shows(((value, 3), HEIGHTS, DEPTHS)), False)
            self.assertIs(shows(((1, value), HEIGHTS, DEPTHS)), False)


class Rows(unittest.TestCase):

    def either_is_wrong(self, heights, depths):
        """Check that wrong heights, and wrong depths, make a wrong paper."""
        self.assertIs(shows(((1, 3), heights, DEPTHS)), False)
        self.assertIs(shows(((1, 3), HEIGHTS, depths)), False)

    def test_numbers_from_0_to_a_million(self):
        self.assertIs(shows(((1, 3), raised(HEIGHTS, MILLION - 2), DEPTHS)), True)
        self.assertIs(shows(((1, 3), HEIGHTS, raised(DEPTHS, MILLION - 2))), True)
        self.either_is_wrong(raised(HEIGHTS, MILLION - 1), raised(DEPTHS, MILLION - 1))
        self.either_is_wrong(raised(HEIGHTS, -1), raised(DEPTHS, -1))

    def test_each_number_counts(self):
        for place in range(6):
            self.either_is_wrong(changed(HEIGHTS, place, -1), changed(DEPTHS, place, -1))
            self.either_is_wrong(changed(HEIGHTS, place, MILLION + 1), changed(DEPTHS, place, MILLION + 1))
            for number in range(5):
                value = ((1, 3), changed(HEIGHTS, place, number), DEPTHS)
                self.assertIs(shows(value), slow.is_paper(MIDDLE, HELD, ROUND, value))
                value = ((1, 3), HEIGHTS, changed(DEPTHS, place, number))
                self.assertIs(shows(value), slow.is_paper(MIDDLE, HELD, ROUND, value))

    def test_a_number_that_no_move_bears_out(self):
        # The least heights and depths: one less, and no move bears it out.
        for place in (1, 2, 3, 4):
            value = changed(HEIGHTS, place, HEIGHTS[place][2] - 1)
            self.assertIs(shows(((1, 3), value, DEPTHS)), False)
        for place in (0, 1, 4, 5):
            value = changed(DEPTHS, place, DEPTHS[place][2] - 1)
            self.assertIs(shows(((1, 3), HEIGHTS, value)), False)
        # A depth that is too great beside the others: what leads there does not bear out its own.
        self.assertIs(shows(((1, 3), HEIGHTS, changed(DEPTHS, 2, 4))), False)

    def test_told_twice(self):
        for place in range(6):
            self.either_is_wrong(HEIGHTS[:place + 1] + HEIGHTS[place:], DEPTHS[:place + 1] + DEPTHS[place:])
            self.either_is_wrong(HEIGHTS + HEIGHTS[place:place + 1], DEPTHS + DEPTHS[place:place + 1])
            again = (HEIGHTS[place][:2] + (9,),)
            self.either_is_wrong(HEIGHTS[:place + 1] + again + HEIGHTS[place + 1:],
                                 DEPTHS[:place + 1] + again + DEPTHS[place + 1:])

    def test_no_moments(self):
        for row in [(2, HELD, 9), (3, HELD, 9), (1, (1, None, 0), 9), (1, (1, 0, None), 9), (1, (0, None, None), 9),
                    (1, (0, 1), 9), (1, (0, 1, None, None), 9), (1, (0, 1, 2), 9)]:
            self.either_is_wrong(tuple(sorted(HEIGHTS + (row,), key=slow.paper_order)),
                                 tuple(sorted(DEPTHS + (row,), key=slow.paper_order)))
            self.either_is_wrong((HEIGHTS + (row,)), DEPTHS + (row,))
        before = ((-1, HELD, 0),)
        self.either_is_wrong(before + HEIGHTS, before + DEPTHS)

    def test_out_of_order(self):
        for one in range(6):
            for other in range(one):
                order = list(range(6))
                order[one], order[other] = other, one
                self.either_is_wrong(tuple([HEIGHTS[place] for place in order]),
                                     tuple([DEPTHS[place] for place in order]))
        self.either_is_wrong(HEIGHTS[::-1], DEPTHS[::-1])

    def test_an_empty_place_is_less_than_book_0(self):
        for order in [(1, 2, 0, 4, 5, 3), (2, 1, 0, 5, 4, 3), (0, 2, 1, 3, 5, 4)]:
            self.either_is_wrong(tuple([HEIGHTS[place] for place in order]), tuple([DEPTHS[place] for place in order]))
        heights, depths = share_paper(TRIANGLE, (0, None, None), (("get", 0), SAY, ("go", 0)))[1:]
        for rows in (heights, depths):
            self.assertEqual(list(rows), sorted(rows, key=slow.paper_order))

    def test_the_beginning_is_lacking(self):
        program = (SAY, ("get", 0), ("get", 1), ("go", 1))
        heights = tuple([(at + 1, here, number) for at, here, number in HEIGHTS])
        depths = tuple([(at + 1, here, number) for at, here, number in DEPTHS])
        first_height, first_depths = ((0, HELD, 5),), tuple([(0, here, 9) for here in (LEFT, HERE, RIGHT)])
        for paper, shown in [
            (((1, 3), first_height + heights, first_depths + depths), True),
            (((1, 3), heights, first_depths + depths), False),
            (((1, 3), first_height + heights, depths), False),
            (((1, 3), ((0, LEFT, 9),) + heights, first_depths + depths), False),
        ]:
            self.assertIs(shows_share(MIDDLE, HELD, program, paper), shown)
            self.assertEqual(slow.is_paper(MIDDLE, HELD, program, paper), shown)
        self.either_is_wrong((), ())

    def test_no_rows(self):
        for value in NO_TUPLES + [list(HEIGHTS), {0: HEIGHTS}, (None,), "rows"]:
            self.either_is_wrong(value, value)
        for place in range(6):
            for rows in (HEIGHTS, DEPTHS):
                at, here, number = rows[place]
                for row in NO_TUPLES + [(), (at,), (at, here), (at, here, number, number), [at, here, number],
                                        (at, list(here), number), (at, str(here), number), (at, None, number),
                                        (at, here[:2] + ([],), number), (at, here[:2] + ({},), number),
                                        (at, (here,), number), ((at, here), here, number)]:
                    wrong = rows[:place] + (row,) + rows[place + 1:]
                    self.either_is_wrong(wrong, wrong)

    def test_truths_are_no_numbers(self):
        for place in range(6):
            for rows in (HEIGHTS, DEPTHS):
                at, here, number = rows[place]
                truths = tuple([item if item is None else item == 1 for item in here])
                for row in [(at == 1, here, number), (at, truths, number)]:
                    wrong = rows[:place] + (row,) + rows[place + 1:]
                    self.assertEqual(wrong, rows)
                    self.either_is_wrong(wrong, wrong)
                for truth in NO_NUMBERS:
                    wrong = changed(rows, place, truth)
                    self.either_is_wrong(wrong, wrong)

    def test_no_paper(self):
        for value in NO_TUPLES + [(), ((1, 3),), ((1, 3), HEIGHTS), PAPER + ((),), list(PAPER), (None, None, None),
                                  {1: PAPER}, (PAPER,), (1, 3), ((1, 3), 5, 5), ((1, 3), (5,), (5,))]:
            with self.subTest(value=value):
                self.assertIs(shows(value), False)


class Errors(unittest.TestCase):

    def test_too_many(self):
        for program in [(SAY,) * 6, (SAY,) * 6 + (("go", 0),)]:
            for call in (share_paper, lambda *rest: shows_share(*rest, None), lambda *rest: shows_share(*rest, PAPER)):
                with self.assertRaises(TooMany) as caught:
                    call(FIVE, FIVE_HELD, program)
                self.assertEqual(caught.exception.most, 600)
        self.assertIsNone(share_paper(FIVE, FIVE_HELD, (SAY,) * 5))
        paper = share_paper(FIVE, FIVE_HELD, (SAY,) * 5 + (("go", 0),))
        self.assertIs(shows_share(FIVE, FIVE_HELD, (SAY,) * 5 + (("go", 0),), paper), True)

    def test_no_way(self):
        for program in [(("get", 1),), (("zero", 0), ("get", 1))]:
            self.assertRaises(NoWay, share_paper, PATH, HELD, program)
            self.assertRaises(NoWay, shows_share, PATH, HELD, program, None)
            self.assertRaises(NoWay, shows_share, PATH, HELD, program, PAPER)
        too_many = (SAY, SAY, SAY, SAY, ("get", 0))
        self.assertRaises(TooMany, share_paper, TAILED, TAILED_HELD, too_many)
        self.assertRaises(TooMany, shows_share, TAILED, TAILED_HELD, too_many, None)

    def test_wrong_arguments(self):
        for call in (share_paper, lambda *rest: shows_share(*rest, None)):
            for value, part in WRONG_YARDS:
                with self.assertRaises(BadYard) as caught:
                    call(value, None, None)
                self.assertEqual(caught.exception.part, part)
            for value in WRONG_STANDINGS:
                self.assertRaises(BadStanding, call, PATH, value, None)
            for value, index in WRONG_PROGRAMS:
                with self.assertRaises(BadProgram) as caught:
                    call(MIDDLE, HELD, value)
                self.assertEqual(caught.exception.index, index)


if __name__ == "__main__":
    unittest.main()
