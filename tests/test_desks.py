"""Promises 1 and 23: a desk that answers lines about a yard at work and a program."""

import random
import unittest

from holestore.benches import Store
from holestore.desks import Desk
from holestore.errors import BadLine, BadProgram, BadString, TooMany
from holestore.holes import most_books
from holestore.orders import orders
from holestore.rooms import is_free, never
from holestore.shares import share
from holestore.webs import parting, pieces
from holestore.writing import can_be_kept, kept
from holestore.yardtexts import read_program, write_program, write_standing, write_yard
from tests.samples import BOW, HOUSE, KITE, NO_NUMBERS, NO_TUPLES, PAIR, PATH, SEVEN, SQUARE, STAR, TRIANGLE, distances
from tests.test_requests import slow_ways
from tests.test_shares import FIVE, FIVE_HELD, TAILED, TAILED_HELD, endless_case
from tests.test_writing import random_case
from tests.test_yardtexts import NO_NUMBER_WORDS, NO_STRINGS, YARD_TEXT
from tests.wrongs import MILLION, SAY

YARD_LINES = ["read", "tick", "standing", "held", "never", "parting", "pieces", "free", "orders", "most"]
PROGRAM_LINES = ["keep", "share", "kept"]
NUMBER_LINES = ["slide 0 1", "bring 0", "write 5"]
ALL_LINES = YARD_LINES + PROGRAM_LINES + NUMBER_LINES


def desk_of(yard, standing, program=None):
    desk = Desk()
    desk.take_yard(write_yard(yard), write_standing(yard, standing))
    if program is not None:
        desk.take_program(write_program(6, program))
    return desk


def middle(text=None):
    """Return a desk with the path of three whose gate is in the middle."""
    desk = Desk()
    desk.take_yard(YARD_TEXT, "0 - 1")
    if text is not None:
        desk.take_program(text)
    return desk


class Desks(unittest.TestCase):

    def says(self, desk, pairs):
        for line, answer in pairs:
            with self.subTest(line=line):
                self.assertEqual(desk.say(line), answer)

    def test_example(self):
        desk = Desk()
        self.assertIsNone(desk.take_yard("places 3\ntie 0 1\ntie 1 2\ngate 1", "0 - 1"))
        desk.take_program("get 0\nget 1\ngo 0")
        self.assertEqual([desk.say(line) for line in ["keep", "share", "pieces", "orders", "bring 1", "write 4",
                                                      "slide 0 1", "sing"]],
                         ["yes", "1 of 3", "0 1; 1 2", "1", "1", "done", "no slide", "what"])

    def test_slide(self):
        self.says(middle(), [("slide 2 1", "done"), ("standing", "0 1 -"), ("tick", "1"), ("slide 2 1", "no slide"),
                             ("slide 0 1", "no slide"), ("slide 0 2", "no slide"), ("slide 1 1", "no slide"),
                             ("tick", "1"), ("slide 1 2", "done"), ("slide 0 1", "done"), ("standing", "- 0 1"),
                             ("tick", "3")])

    def test_bring(self):
        self.says(middle(), [("bring 1", "1"), ("bring 1", "0"), ("bring 0", "2"), ("standing", "- 0 1"), ("tick", "3"),
                             ("bring 2", "no book"), ("bring 3", "no such number"), ("tick", "3")])
        desk = desk_of(PATH, (0, None, 1))
        self.says(desk, [("bring 1", "no way"), ("tick", "0"), ("bring 0", "0"), ("bring 2", "no book")])
        self.says(desk_of(STAR, (0, None, None, None)), [("bring 1", "no book"), ("bring 2", "no book"),
                                                         ("bring 3", "no book"), ("bring 4", "no such number"),
                                                         ("bring 0", "1")])

    def test_read_and_write(self):
        self.says(middle(), [("read", "empty"), ("write 5", "empty"), ("tick", "2"), ("bring 1", "1"), ("read", "0"),
                             ("write 5", "done"), ("read", "5"), ("tick", "6"), ("held", "0 5"), ("write -7", "done"),
                             ("read", "-7"), ("held", "0 -7"), ("write 1000000", "done"), ("read", "1000000"),
                             ("write -1000000", "done"), ("read", "-1000000"), ("write 0", "done"), ("read", "0")])

    def test_write_no_number(self):
        desk = middle()
        desk.say("bring 0")
        for word in ["1000001", "-1000001", "9" * 30] + [word for word in NO_NUMBER_WORDS if word != ""]:
            self.says(desk, [("write " + word, "no such number"), ("tick", "1"), ("held", "0 0")])
        self.says(desk_of(PATH, (None, 0, 1)), [("write x", "no such number"), ("tick", "0"), ("write 1", "empty")])

    def test_no_place(self):
        desk = middle()
        words = ["3", "-1", "7", "10"] + [word for word in NO_NUMBER_WORDS if word != ""]
        for word in words:
            self.says(desk, [("slide " + word + " 1", "no such number"), ("slide 0 " + word, "no such number"),
                             ("slide " + word + " " + word, "no such number"), ("bring " + word, "no such number"),
                             ("tick", "0")])

    def test_questions_of_the_yard(self):
        self.says(middle(), [("never", "-"), ("parting", "1"), ("pieces", "0 1; 1 2"), ("free", "yes"), ("orders", "1"),
                             ("most", "2"), ("held", "0 0"), ("standing", "0 - 1"), ("tick", "0")])
        self.says(desk_of(PATH, (0, 1, None)), [("never", "1"), ("parting", "1"), ("free", "no"), ("most", "1")])
        self.says(desk_of((5, BOW[1], 4), (0, 1, 2, 3, None)), [("never", "0 1"), ("pieces", "0 1 2; 2 3 4"),
                                                                ("orders", "4")])
        self.says(desk_of(SQUARE, (0, 1, 2, None)), [("never", "-"), ("parting", "-"), ("pieces", "0 1 2 3"),
                                                     ("free", "yes"), ("orders", "3"), ("most", "3")])
        self.says(desk_of(SEVEN, (0, 1, 2, 3, 4, 5, None)), [("orders", "120"), ("most", "6")])
        self.says(desk_of(STAR, (0, None, None, None)), [("never", "more holes"), ("held", "0"), ("most", "2"),
                                                         ("standing", "0 - - -")])
        self.says(desk_of(STAR, (0, 1, None, None)), [("never", "more holes")])

    def test_like_the_functions(self):
        for yard in (PAIR, PATH, TRIANGLE, SQUARE, KITE, HOUSE, STAR, BOW):
            for here in list(distances(yard, tuple(range(yard[0] - 1)) + (None,)))[:9]:
                self.says(desk_of(yard, here), [
                    ("never", " ".join(map(str, never(yard, here))) or "-"),
                    ("parting", " ".join(map(str, parting(yard))) or "-"),
                    ("pieces", "; ".join([" ".join(map(str, places)) for places in pieces(yard)])),
                    ("free", "yes" if is_free(yard) else "no"), ("orders", str(orders(yard))),
                    ("most", str(most_books(yard))), ("standing", write_standing(yard, here)),
                ])

    def test_questions_of_the_program(self):
        self.says(middle("get 0\nget 1\ngo 0"), [("keep", "yes"), ("share", "1 of 3"), (
            "kept", write_program(2, kept((3, PATH[1], 1), (0, None, 1), (("get", 0), ("get", 1), ("go", 0))))
            .replace("\n", "; "))])
        self.says(middle("get 0\nsay"), [("keep", "yes"), ("share", "-"), ("kept", "slide 0 1; get 0; say")])
        self.says(middle("stop"), [("keep", "yes"), ("share", "-")])
        self.says(desk_of(PATH, (0, None, 1), (("get", 1),)), [("keep", "no"), ("share", "no way"), ("kept", "no way")])
        self.says(desk_of(PATH, (0, None, 1), (("get", 0), ("go", 0))), [("keep", "yes"), ("share", "1 of 1")])

    def test_from_the_standing_then(self):
        desk = desk_of((4, KITE[1], 0), (0, 1, None, 2), (("get", 1),))
        self.says(desk, [("keep", "yes"), ("never", "2"), ("slide 3 2", "done"), ("slide 2 3", "done"),
                         ("keep", "yes")])
        desk = middle("get 0\nsay")
        self.says(desk, [("kept", "slide 0 1; get 0; say"), ("bring 0", "1"), ("kept", "get 0; say"), ("bring 1", "2"),
                         ("kept", "slide 1 2; slide 0 1; get 0; say")])

    def test_random_programs(self):
        chance = random.Random(24)
        told = []
        for _ in range(150):
            yard, standing, program = chance.choice([random_case, endless_case])(chance, (PATH, TRIANGLE, KITE, STAR))
            desk = desk_of(yard, standing)
            self.assertEqual(desk.take_program(write_program(6, program)), "taken")
            for _ in range(3):
                can = can_be_kept(yard, standing, program)
                ratio = share(yard, standing, program) if can else None
                told.append("no way" if not can else "-" if ratio is None else "{} of {}".format(*ratio))
                self.says(desk, [("keep", "yes" if can else "no"), ("share", told[-1])])
                answer = desk.say("kept")
                if can:
                    self.assertEqual(read_program(6, answer.replace("; ", "\n")), kept(yard, standing, program))
                else:
                    self.assertEqual(answer, "no way")
                way = slow_ways(yard, standing, chance.randrange(len(standing) - standing.count(None)))
                if way:
                    store = Store(yard, standing)
                    for slide in min(way):
                        desk.say("slide {} {}".format(*slide))
                        store.slide(*slide)
                    standing = store.standing
        self.assertGreater(told.count("no way"), 20)
        self.assertGreater(told.count("-"), 20)
        self.assertGreater(len(set(told)), 8)

    def test_too_many_goes_through(self):
        desk = desk_of(FIVE, FIVE_HELD, (SAY,) * 6 + (("go", 0),))
        for _ in range(2):
            with self.assertRaises(TooMany) as caught:
                desk.say("share")
            self.assertEqual(caught.exception.most, 600)
        self.says(desk, [("keep", "yes"), ("tick", "0"), ("bring 1", str(len(slow_ways(FIVE, FIVE_HELD, 1)[0])))])
        self.assertTrue(desk.say("kept").startswith("say; say; "))
        self.assertRaises(TooMany, desk_of(FIVE, FIVE_HELD, (SAY,) * 6).say, "share")
        desk = desk_of(TAILED, TAILED_HELD, (SAY, SAY, SAY, SAY, ("get", 0)))
        self.assertRaises(TooMany, desk.say, "share")
        self.says(desk, [("keep", "no"), ("kept", "no way")])

    def test_spaces(self):
        desk = middle("get 0")
        self.says(desk, [("  tick ", "0"), ("   slide   0  1   ", "done"), (" held  ", "0 0"), ("  keep", "yes"),
                         ("bring    1", "2")])

    def test_what(self):
        desk = middle("get 0")
        for line in ["", " ", "sing", "Tick", "tick,", "ticks", "program", "program get 0", "0", "-", "what", "\u00e9"]:
            self.says(desk, [(line, "what")])
        for value in NO_STRINGS + NO_TUPLES + NO_NUMBERS + [("tick",), ["tick"], {"tick": 0}, b"tick"]:
            if not isinstance(value, str):
                self.says(desk, [(value, "what")])
        for sign in "\n\t\r\xa0\u2003":
            self.says(desk, [("tick" + sign, "what"), (sign + "tick", "what"), ("bring" + sign + "0", "what"),
                             ("bring 0" + sign, "no such number")])
        self.assertEqual(desk.say("tick"), "0")

    def test_too_few_and_too_many_words(self):
        for desk in (middle("get 0"), middle(), Desk()):
            for line in YARD_LINES + PROGRAM_LINES + NUMBER_LINES:
                self.says(desk, [(line + " 0", "what"), (line + " x", "what"), (line + " " + line, "what")])
            for line in ["slide", "slide 0", "bring", "write", "slide 0 1 2", "bring 0 1", "write 1 2", "slide x"]:
                self.says(desk, [(line, "what")])

    def test_no_yard(self):
        desk = Desk()
        for line in ALL_LINES + ["slide x y", "bring -1", "write x"]:
            self.says(desk, [(line, "no yard")])
        for text in ["get 0", "", "x", "say\n" * 30]:
            self.assertEqual(desk.take_program(text), "no yard")
        for line in ALL_LINES:
            self.says(desk, [(line, "no yard")])
        self.says(desk, [("sing", "what"), ("", "what"), (None, "what")])

    def test_no_program(self):
        desk = middle()
        for line in PROGRAM_LINES:
            self.says(desk, [(line, "no program")])
        desk.take_program("get 0")
        self.assertEqual(desk.say("keep"), "yes")

    def test_each_word_is_answered(self):
        desk = middle("get 0")
        for line in ALL_LINES:
            self.assertNotIn(desk.say(line), ("what", "no yard", "no program", "no such number"))


class Taking(unittest.TestCase):

    def wrong(self, line, place, call, *rest):
        with self.subTest(rest=rest):
            with self.assertRaises(BadLine) as caught:
                call(*rest)
            self.assertEqual((caught.exception.line, caught.exception.place), (line, place))

    def test_a_taken_yard_drops_the_program(self):
        desk = middle("get 0")
        desk.say("bring 0")
        desk.say("write 3")
        desk.take_yard(YARD_TEXT, "0 1 -")
        self.assertEqual([desk.say(line) for line in ["keep", "share", "kept", "tick", "held", "standing"]],
                         ["no program", "no program", "no program", "0", "0 0", "0 1 -"])

    def test_a_yard_that_is_not_taken(self):
        desk = middle("get 0")
        desk.say("bring 0")
        self.wrong(2, 3, desk.take_yard, "places 3\ntie 0 0", "0 - 1")
        self.wrong(1, 1, desk.take_yard, YARD_TEXT, "x - 1")
        self.wrong(1, 4, desk.take_yard, YARD_TEXT, "0 - 1 -")
        self.wrong(1, 3, desk.take_yard, YARD_TEXT, "0 - 1\n")
        self.wrong(2, 1, desk.take_yard, "", "")
        # The text's error comes ahead of the line's.
        self.wrong(3, 2, desk.take_yard, "places 2\ntie 0 1\ngate 2", "x")
        self.wrong(3, 2, desk.take_yard, "places 2\ntie 0 1\ngate 2", None)
        for value in NO_STRINGS:
            self.assertRaises(BadString, desk.take_yard, value, "x")
            self.assertRaises(BadString, desk.take_yard, YARD_TEXT, value)
        self.assertEqual([desk.say(line) for line in ["keep", "kept", "tick", "standing"]],
                         ["yes", "get 0", "1", "- 0 1"])
        desk = Desk()
        self.wrong(1, 1, desk.take_yard, YARD_TEXT, "x")
        self.assertEqual(desk.say("tick"), "no yard")

    def test_programs(self):
        desk = middle()
        self.assertEqual(desk.take_program("get 0"), "taken")
        self.assertEqual(desk.take_program("\n say  \n\nput -5\nzero 3"), "taken")
        self.assertEqual(desk.say("kept"), "say; put -5; zero 3")
        self.assertEqual(desk.take_program("say\n" * 20), "taken")
        self.assertEqual(desk.take_program("go 20\n" + "say\n" * 18 + "put 1000000"), "taken")

    def test_a_program_that_is_not_taken(self):
        desk = middle("get 0\nsay")
        self.wrong(1, 2, desk.take_program, "get 2")
        self.wrong(1, 3, desk.take_program, "get 0 1")
        self.wrong(2, 1, desk.take_program, "get 0\nx")
        self.wrong(2, 1, desk.take_program, "")
        self.wrong(1, 2, desk.take_program, "go 2")
        self.wrong(21, 2, desk.take_program, "say\n" * 20 + "go 22")
        self.wrong(6001, 1, desk.take_program, "say\n" * 6001)
        for text, index in [("slide 0 1", 0), ("say\nslide 0 1\nslide 1 0", 1), ("say\n" * 21, None),
                            ("slide 0 1\n" * 21, None), ("say\n" * 6000, None), ("say\n" * 19 + "slide 6 6", 19)]:
            with self.assertRaises(BadProgram) as caught:
                desk.take_program(text)
            self.assertEqual(caught.exception.index, index)
        for value in NO_STRINGS:
            self.assertRaises(BadString, desk.take_program, value)
            self.assertRaises(BadString, Desk().take_program, value)
        self.assertEqual(desk.say("kept"), "slide 0 1; get 0; say")

    def test_a_program_is_for_the_books_of_the_yard(self):
        desk = desk_of(STAR, (0, None, None, None))
        self.wrong(1, 2, desk.take_program, "get 1")
        desk = desk_of(SEVEN, (0, 1, 2, 3, 4, 5, None))
        self.assertEqual(desk.take_program("get 5"), "taken")
        self.wrong(1, 2, desk.take_program, "get 6")

    def test_numbers_go_up_to_a_million(self):
        desk = middle("put {}\nput {}".format(MILLION, -MILLION))
        self.assertEqual(desk.say("kept"), "put 1000000; put -1000000")


if __name__ == "__main__":
    unittest.main()
