"""Promises 1 and 24: sessions at a desk, their texts, and whether they go so again."""

import random
import unittest

from holestore.desks import Desk
from holestore.errors import BadLine, BadProgram, BadString, TooMany
from holestore.sessions import Session, first_unlike, read_session
from holestore.yardtexts import write_program, write_standing, write_yard
from tests.samples import KITE, PAIR, PATH, SQUARE, STAR
from tests.test_desks import ALL_LINES
from tests.test_shares import FIVE, FIVE_HELD
from tests.test_writing import random_case
from tests.test_yardtexts import NO_STRINGS, YARD_TEXT
from tests.wrongs import SAY

MIDDLE = (3, PATH[1], 1)
HELD = (0, None, 1)
HEAD = "| places 3\n| tie 0 1\n| tie 1 2\n| gate 1\n= 0 - 1"


def random_line(chance):
    numbers = [str(chance.randrange(-1, 5)) for _ in range(2)]
    return chance.choice(ALL_LINES + ["slide " + " ".join(numbers), "bring " + numbers[0], "write " + numbers[0], "",
                                      "sing", "  tick", "tick 0", "program get 0:go 0", "program say", "> tick"])


class Sessions(unittest.TestCase):

    def wrong(self, line, place, call, *rest):
        with self.subTest(rest=rest):
            with self.assertRaises(BadLine) as caught:
                call(*rest)
            self.assertEqual((caught.exception.line, caught.exception.place), (line, place))

    def test_example(self):
        session = Session("places 2\ntie 0 1\ngate 0", "0 -")
        answers = [session.say("program get 0:go 0"), session.say("share")]
        self.assertEqual(
            [answers, session.text(), first_unlike("| places 2\n| tie 0 1\n| gate 0\n= 0 -\n> tick\n< 5")],
            [["taken", "1 of 1"],
             "| places 2\n| tie 0 1\n| gate 0\n= 0 -\n> program get 0:go 0\n< taken\n> share\n< 1 of 1", 0])

    def test_at_first(self):
        session = Session(YARD_TEXT, "0 - 1")
        self.assertEqual(session.log, ())
        self.assertEqual(session.text(), HEAD)
        self.assertEqual(read_session(HEAD), (MIDDLE, HELD, ()))
        self.assertIsNone(first_unlike(HEAD))

    def test_text_as_it_is_written(self):
        session = Session("\n  places   3\ntie 0 1\n\ntie  1 2\n gate 1\n", "  0  -   1 ")
        self.assertEqual(session.text(), HEAD)
        session.say("  tick ")
        session.say("")
        self.assertEqual(session.text(), HEAD + "\n>   tick \n< 0\n> \n< what")
        self.assertEqual(session.log, (("  tick ", "0"), ("", "what")))

    def test_the_first_standing_is_told(self):
        session = Session(YARD_TEXT, "0 - 1")
        session.say("bring 1")
        self.assertEqual(session.say("standing"), "0 1 -")
        self.assertEqual(session.text(), HEAD + "\n> bring 1\n< 1\n> standing\n< 0 1 -")

    def test_says_what_a_desk_says(self):
        chance = random.Random(25)
        for _ in range(60):
            yard, standing, program = random_case(chance, (PAIR, PATH, SQUARE, KITE, STAR))
            session, desk = Session(write_yard(yard), write_standing(yard, standing)), Desk()
            desk.take_yard(write_yard(yard), write_standing(yard, standing))
            pairs = []
            for _ in range(20):
                line = random_line(chance)
                if chance.randrange(6) == 0:
                    text = write_program(6, program)
                    line = "program " + text.replace("\n", ":")
                if line.startswith("program "):
                    answer = desk.take_program(line[len("program "):].replace(":", "\n"))
                else:
                    answer = desk.say(line)
                pairs.append((line, answer))
                self.assertEqual(session.say(line), answer)
                self.assertEqual(session.log, tuple(pairs))
            self.assertEqual(read_session(session.text()), (yard, standing, tuple(pairs)))
            self.assertIsNone(first_unlike(session.text()))

    def test_program_lines(self):
        session = Session(YARD_TEXT, "0 - 1")
        for line, answer in [
            ("program get 0: :  say : go 1", "taken"),
            ("kept", "slide 0 1; get 0; say; go 2"),
            ("program  put -1", "taken"),
            ("kept", "put -1"),
            ("program", "what"),
            (" program get 0", "what"),
            ("programs get 0", "what"),
            ("program:get 0", "what"),
            ("Program get 0", "what"),
            ("kept", "put -1"),
        ]:
            self.assertEqual(session.say(line), answer)
        self.assertEqual(len(session.log), 10)
        self.assertIsNone(first_unlike(session.text()))

    def test_errors_of_a_program_go_through(self):
        session = Session(YARD_TEXT, "0 - 1")
        session.say("program get 1")
        log = session.log
        self.wrong(2, 1, session.say, "program ")
        self.wrong(2, 1, session.say, "program   ")
        self.wrong(3, 1, session.say, "program :")
        self.wrong(3, 2, session.say, "program say:say:get 2")
        self.wrong(1, 1, session.say, "program x")
        for line, index in [("program slide 0 1", 0), ("program say:slide 0 1", 1), ("program " + "say:" * 21, None)]:
            with self.assertRaises(BadProgram) as caught:
                session.say(line)
            self.assertEqual(caught.exception.index, index)
        self.assertEqual(session.log, log)
        self.assertEqual(session.text(), HEAD + "\n> program get 1\n< taken")
        self.assertEqual(session.say("kept"), "slide 2 1; get 1")

    def test_too_many_goes_through(self):
        session = Session(write_yard(FIVE), write_standing(FIVE, FIVE_HELD))
        session.say("program " + "say:" * 6 + "go 0")
        before = session.text()
        with self.assertRaises(TooMany) as caught:
            session.say("share")
        self.assertEqual(caught.exception.most, 600)
        self.assertEqual(session.text(), before)
        self.assertIsNone(first_unlike(before))
        self.assertRaises(TooMany, first_unlike, before + "\n> share\n< 1 of 1")

    def test_lines_that_are_none(self):
        session = Session(YARD_TEXT, "0 - 1")
        for value in NO_STRINGS + ["tick\n", "\n", "\ntick", "tick\ntick", "program get 0\nget 1", "program get 0\n"]:
            with self.subTest(value=value):
                self.assertRaises(BadString, session.say, value)
        self.assertEqual(session.log, ())

    def test_sessions_that_cannot_begin(self):
        self.wrong(2, 1, Session, "", "")
        self.wrong(2, 1, Session, "places 2\ngate 0", "x")
        self.wrong(2, 1, Session, "places 2\ngate 0", None)
        self.wrong(1, 2, Session, YARD_TEXT, "0")
        self.wrong(1, 1, Session, YARD_TEXT, "- - -")
        for value in NO_STRINGS:
            self.assertRaises(BadString, Session, value, None)
            self.assertRaises(BadString, Session, value, "x")
            self.assertRaises(BadString, Session, YARD_TEXT, value)

    def test_two_sessions_are_apart(self):
        one, other = Session(YARD_TEXT, "0 - 1"), Session(YARD_TEXT, "0 - 1")
        one.say("bring 0")
        one.say("program get 0")
        self.assertEqual(other.log, ())
        self.assertEqual([other.say("tick"), other.say("keep")], ["0", "no program"])


class Texts(unittest.TestCase):

    def wrong(self, line, place, text):
        for call in (read_session, first_unlike):
            with self.subTest(text=text):
                with self.assertRaises(BadLine) as caught:
                    call(text)
                self.assertEqual((caught.exception.line, caught.exception.place), (line, place))

    def test_read(self):
        self.assertEqual(read_session(HEAD + "\n> tick\n< 0\n> \n< what\n> > x\n< < y"),
                         (MIDDLE, HELD, (("tick", "0"), ("", "what"), ("> x", "< y"))))
        self.assertEqual(read_session("| \n|  places   2\n| tie 0 1\n|  \n| gate 0\n=   0 -  "), (PAIR, (0, None), ()))
        self.assertEqual(read_session(HEAD + "\n> \n< ")[2], (("", ""),))

    def test_lines_that_begin_otherwise(self):
        lines = (HEAD + "\n> tick\n< 0\n> held\n< 0 0").split("\n")
        for at in range(5, len(lines) + 1):
            for line in ["", " ", "x", "|", "=", ">", "<", ">tick", "<0", " > tick"]:
                self.wrong(at, 1, "\n".join(lines[:at - 1] + [line] + lines[at:]))
            for line in ["| gate 1", "= 0 - 1"]:
                if at > 5:
                    self.wrong(at, 1, "\n".join(lines[:at - 1] + [line] + lines[at:]))
            self.wrong(at, 1, "\n".join(lines[:at - 1] + ["\t"] + lines[at - 1:]))
        for at, line in [(5, "> tick"), (5, "< 0"), (6, "< tick"), (7, "> 0"), (8, "< held"), (9, "> x")]:
            self.wrong(at, 1, "\n".join(lines[:at - 1] + [line] + lines[at:]))
        self.wrong(10, 1, "\n".join(lines) + "\n")
        self.wrong(10, 1, "\n".join(lines) + "\n< x")

    def test_lacking_lines(self):
        lines = (HEAD + "\n> tick\n< 0\n> held\n< 0 0").split("\n")
        self.wrong(5, 1, "\n".join(lines[:4]))
        self.wrong(7, 1, "\n".join(lines[:6]))
        self.wrong(9, 1, "\n".join(lines[:8]))
        self.wrong(2, 1, "| places 3")
        # A void text has one line, and it begins otherwise.
        self.wrong(1, 1, "")
        self.wrong(1, 1, "\n")
        self.wrong(1, 1, "places 3")

    def test_a_yard_that_cannot_be_read(self):
        self.wrong(2, 1, "= 0 -")
        self.wrong(1, 2, "| places 9\n= x")
        self.wrong(2, 3, "| places 3\n| tie 0 3\n= x")
        self.wrong(3, 1, "| places 3\n| tie 0 1\n= 0 - 1")
        self.wrong(5, 1, "| places 2\n| tie 0 1\n| \n| \n= 0 -")
        self.wrong(4, 1, "| places 2\n| tie 0 1\n| gate 0\n| gate 0\n= 0 -")
        # How the lines begin comes first.
        self.wrong(4, 1, "| places 9\n| x\n= x\nx")
        self.wrong(3, 1, "| places 9\n| x")
        self.wrong(5, 1, "| places 9\n| x\n= x\n> tick")

    def test_a_standing_that_cannot_be_read(self):
        head = HEAD.replace("0 - 1", "{}")
        for words, place in [("", 1), ("x - 1", 1), ("0 0 1", 2), ("0 -", 3), ("0 - 1 -", 4), ("- - -", 1),
                             ("- 1 -", 2), ("0 1 2", 3)]:
            self.wrong(1, place, head.format(words))
            self.wrong(1, place, head.format(words) + "\n> tick\n< 0")
        # The yard comes first.
        self.wrong(1, 2, "| places 9\n= x")

    def test_wrong_arguments(self):
        for value in NO_STRINGS:
            self.assertRaises(BadString, read_session, value)
            self.assertRaises(BadString, first_unlike, value)


class Unlike(unittest.TestCase):

    def test_none(self):
        self.assertIsNone(first_unlike(HEAD + "\n> tick\n< 0\n> read\n< empty\n> tick\n< 1"))

    def test_the_first(self):
        rest = "\n> tick\n< {}\n> read\n< {}\n> tick\n< {}\n> sing\n< {}"
        for answers, place in [(("0", "empty", "1", "what"), None), (("1", "empty", "1", "what"), 0),
                               (("0", "0", "1", "what"), 1), (("0", "empty", "2", "what"), 2),
                               (("0", "empty", "1", "la"), 3), (("0", "0", "0", "0"), 1),
                               (("0 ", "empty", "1", "what"), 0), (("0", "empty", "1", ""), 3)]:
            with self.subTest(answers=answers):
                self.assertEqual(first_unlike(HEAD + rest.format(*answers)), place)

    def test_all_lines_are_said_to_a_new_session(self):
        self.assertEqual(first_unlike(HEAD + "\n> bring 1\n< 1\n> write 5\n< done\n> bring 1\n< 1\n> read\n< 5"), 2)
        self.assertIsNone(first_unlike(HEAD + "\n> bring 1\n< 1\n> write 5\n< done\n> bring 1\n< 0\n> read\n< 5"))
        for _ in range(2):
            self.assertIsNone(first_unlike(HEAD + "\n> keep\n< no program\n> program get 1\n< taken\n> keep\n< yes"))

    def test_errors_go_through(self):
        for first in ["\n> tick\n< 0", "\n> tick\n< 7"]:
            with self.assertRaises(BadLine) as caught:
                first_unlike(HEAD + first + "\n> program say:get 2\n< taken")
            self.assertEqual((caught.exception.line, caught.exception.place), (2, 2))
            with self.assertRaises(BadProgram) as caught:
                first_unlike(HEAD + first + "\n> program say:slide 0 1\n< taken")
            self.assertEqual(caught.exception.index, 1)
        text = Session(write_yard(FIVE), write_standing(FIVE, FIVE_HELD)).text()
        program = write_program(4, (SAY,) * 6).replace("\n", ":")
        self.assertRaises(TooMany, first_unlike, text + "\n> program " + program + "\n< taken\n> share\n< -")


if __name__ == "__main__":
    unittest.main()
