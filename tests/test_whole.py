"""Promise 1 over the whole program: any value for any argument, the leftmost error, equal answers, nothing changed."""

import copy
import unittest
from importlib import import_module

from holestore.errors import (BadBook, BadInputs, BadLine, BadNumber, BadPlace, BadProgram, BadSlide, BadStanding,
                              BadString, BadYard, NoWay, StoreError, TooMany)
from tests.samples import NO_NUMBERS, NO_TUPLES, PATH, WRONG_STANDINGS, WRONG_YARDS
from tests.test_interface import CLASSES, FUNCTIONS
from tests.test_papers import PAPER
from tests.test_shares import FIVE, FIVE_HELD, TAILED, TAILED_HELD
from tests.test_yards import WRONG_SLIDES
from tests.test_yardtexts import NO_STRINGS, YARD_TEXT
from tests.wrongs import SAY, WRONG_INPUTS, WRONG_KEPT, WRONG_PROGRAMS, numbers_but

MIDDLE = (3, PATH[1], 1)
STANDING = (0, 1, None)
ROUND = (("get", 0), ("get", 1), ("go", 0))
SESSION = "| places 3\n| tie 0 1\n| tie 1 2\n| gate 1\n= 0 - 1\n> tick\n< 0"


def with_error(values, error):
    return [(value, error, {}) for value in values]


# For each sort of arguments a right value, and wrong ones, each with its error and the error's fields.
SORTS = {
    "yard": (MIDDLE, [(value, BadYard, {"part": part}) for value, part in WRONG_YARDS]),
    "standing": (STANDING, with_error(WRONG_STANDINGS, BadStanding)),
    "one empty": (STANDING, with_error(WRONG_STANDINGS + [(0, None, None), (None, 0, None)], BadStanding)),
    "slide": ((1, 2), with_error(WRONG_SLIDES, BadSlide)),
    "place": (0, with_error(numbers_but(0, 2), BadPlace)),
    "other place": (1, with_error(numbers_but(0, 2) + [0, 2], BadPlace)),
    "book": (0, with_error(numbers_but(0, 1), BadBook)),
    "asks": ((0, 1), with_error(NO_TUPLES + [(2,), (0, -1), (True,), (None,), (0, 1, "0"), (0,) * 21], BadBook)),
    "program": (ROUND, [(value, BadProgram, {"index": index}) for value, index in WRONG_PROGRAMS]),
    "kept": (ROUND, [(value, BadProgram, {"index": index}) for value, index in WRONG_KEPT]),
    "inputs": ((3, 4), with_error(WRONG_INPUTS, BadInputs)),
    "most": (9, with_error(numbers_but(0, 20000), BadNumber)),
    "books": (2, with_error(numbers_but(1, 6), BadNumber)),
    "some books": (2, with_error(numbers_but(1, 2), BadNumber)),
    "yard text": (YARD_TEXT, with_error(NO_STRINGS, BadString) + [
        ("", BadLine, {"line": 2, "place": 1}), ("places 8", BadLine, {"line": 1, "place": 2})]),
    "standing text": ("0 1 -", with_error(NO_STRINGS, BadString) + [
        ("", BadLine, {"line": 1, "place": 1}), ("0 1", BadLine, {"line": 1, "place": 3})]),
    "program text": ("get 0\nslide 0 1", with_error(NO_STRINGS, BadString) + [
        ("", BadLine, {"line": 2, "place": 1}), ("say\nget 7", BadLine, {"line": 2, "place": 2})]),
    "session text": (SESSION, with_error(NO_STRINGS, BadString) + [
        ("", BadLine, {"line": 1, "place": 1}), (SESSION[:-4], BadLine, {"line": 7, "place": 1})]),
    "any": (PAPER, []),
}

YARD = ["yard"]
AT = ["yard", "standing"]
AT_ONE = ["yard", "one empty"]
FOR_PROGRAM = ["yard", "standing", "program"]
ARGUMENTS = {
    "parting": YARD, "two_sided": YARD, "pieces": YARD, "kind": ["yard", "place", "other place"],
    "slides": AT, "behind_slide": AT + ["slide"], "slides_to": AT + ["standing"], "count_standings": AT,
    "room": AT_ONE + ["book"], "rooms": AT, "never": AT_ONE, "bar": AT_ONE + ["book"],
    "shows_bar": AT_ONE + ["book", "any"], "is_free": YARD,
    "orders": YARD, "all_standings": AT_ONE, "sign": AT_ONE,
    "run_still": ["books", "program", "inputs", "most"], "run_yard": AT + ["kept", "inputs", "most"],
    "fault": FOR_PROGRAM + ["kept"], "carries": FOR_PROGRAM + ["kept"],
    "barred": FOR_PROGRAM, "can_be_kept": FOR_PROGRAM, "kept": FOR_PROGRAM,
    "keeps_all": YARD, "hardest": ["books"],
    "share": FOR_PROGRAM, "kept_best": FOR_PROGRAM,
    "share_paper": FOR_PROGRAM, "shows_share": FOR_PROGRAM + ["any"],
    "fewest_slides": AT + ["asks"], "nearest_slides": AT + ["asks"], "farthest_ask": AT,
    "free_gates": YARD, "gates_for": FOR_PROGRAM, "best_gate": FOR_PROGRAM, "freeing": YARD, "needed_ties": YARD,
    "count_classes": ["yard", "some books"], "most_books": YARD,
    "write_yard": YARD, "read_yard": ["yard text"], "write_standing": AT, "read_standing": ["yard", "standing text"],
    "write_program": ["books", "program"], "read_program": ["books", "program text"],
    "read_session": ["session text"], "first_unlike": ["session text"],
    "Store": AT, "Session": ["yard text", "standing text"],
}
# A program with a slide is right to write.
SORTS["kept to write"] = (ROUND, [row for row in SORTS["kept"][1] if "slide" not in str(row[0])])
ARGUMENTS["write_program"] = ["books", "kept to write"]


def calls():
    """Return a list of triples: the name of what is called, what is called, and the sorts of its arguments."""
    found = []
    for module, functions in FUNCTIONS.items():
        for name in functions:
            found.append((name, getattr(import_module("holestore." + module), name), ARGUMENTS[name]))
    for module in ("benches", "sessions"):
        for name in CLASSES[module]:
            found.append((name, getattr(import_module("holestore." + module), name), ARGUMENTS[name]))
    return found


def shown(value):
    """Return what tells apart values that are equal to Python, as True and 1 are."""
    return repr(value)


def is_plain(value):
    """Tell whether a value is made of integers, strings, truths, None and tuples."""
    if isinstance(value, tuple):
        return all(is_plain(item) for item in value)
    return value is None or isinstance(value, (int, str))


class Whole(unittest.TestCase):

    def test_all_of_the_interface_is_called_here(self):
        names = [name for functions in FUNCTIONS.values() for name in functions]
        self.assertEqual(sorted(ARGUMENTS), sorted(names + ["Store", "Session"]))
        for module, functions in FUNCTIONS.items():
            for name, arguments in functions.items():
                self.assertEqual(len(ARGUMENTS[name]), len(arguments), name)

    def test_equal_arguments_have_equal_answers(self):
        answers = []
        for _ in range(2):
            told = []
            for name, call, sorts in calls():
                arguments = [copy.deepcopy(SORTS[sort][0]) for sort in sorts]
                before = shown(arguments)
                answer = call(*arguments)
                self.assertEqual(shown(arguments), before, name)
                if name not in ("Store", "Session"):
                    self.assertTrue(is_plain(answer), name)
                    told.append(shown(answer))
            answers.append(told)
        self.assertEqual(answers[0], answers[1])

    def test_any_value_for_any_argument(self):
        for name, call, sorts in calls():
            right = [SORTS[sort][0] for sort in sorts]
            for place, sort in enumerate(sorts):
                for value, error, fields in SORTS[sort][1]:
                    # The error is that of the leftmost wrong argument, whatever stands behind it.
                    for rest in (right[place + 1:], [None] * (len(sorts) - place - 1)):
                        arguments = right[:place] + [value] + rest
                        before = shown(arguments)
                        with self.subTest(name=name, place=place, value=before[:200]):
                            with self.assertRaises(StoreError) as caught:
                                call(*arguments)
                            self.assertIs(type(caught.exception), error)
                            for field in fields:
                                self.assertEqual(getattr(caught.exception, field), fields[field])
                            self.assertEqual(shown(arguments), before)

    def test_shows_takes_any_value(self):
        yards = [value for value, _ in WRONG_YARDS]
        values = NO_TUPLES + NO_NUMBERS + WRONG_STANDINGS + yards + [PAPER, 0, 1, 2, 10 ** 99]
        for name, call, sorts in calls():
            if name.startswith("shows"):
                right = [SORTS[sort][0] for sort in sorts[:-1]]
                for value in values:
                    before = shown(value)
                    with self.subTest(name=name, value=before[:200]):
                        self.assertIsInstance(call(*right, value), bool)
                        self.assertEqual(shown(value), before)

    def test_too_many_and_no_way_come_last(self):
        gate = (TAILED[0], TAILED[1], 5)
        both = (SAY, SAY, SAY, SAY, ("get", 0))
        for name, call, sorts in calls():
            if sorts[:3] == FOR_PROGRAM:
                rest = [None] * (len(sorts) - 3)
                with self.subTest(name=name):
                    if name in ("share", "kept_best", "share_paper", "shows_share"):
                        self.assertRaises(TooMany, call, gate, TAILED_HELD, both, *rest)
                        self.assertRaises(TooMany, call, FIVE, FIVE_HELD, (SAY,) * 6, *rest)
                        self.assertRaises(NoWay, call, gate, TAILED_HELD, both[3:], *rest)
                    self.assertRaises(BadProgram, call, gate, TAILED_HELD, both + (("get", 5),), *rest)

    def test_all_errors_stand_under_store_error(self):
        for error in (BadBook, BadInputs, BadLine, BadNumber, BadPlace, BadProgram, BadSlide, BadStanding, BadString,
                      BadYard, NoWay, TooMany):
            self.assertTrue(issubclass(error, StoreError))
        self.assertTrue(issubclass(StoreError, ValueError))


if __name__ == "__main__":
    unittest.main()
