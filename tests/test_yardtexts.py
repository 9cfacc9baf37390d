"""Promises 1, 20 and 21: texts of yards, standings and programs."""

import random
import unittest

from holestore.errors import BadLine, BadNumber, BadProgram, BadStanding, BadString, BadYard
from holestore.yardtexts import read_program, read_standing, read_yard, write_program, write_standing, write_yard
from tests import samples
from tests.samples import (ALL_TIED, BOW, KITE, PAIR, PATH, RING_OF_SEVEN, SEVEN, THREE_BY_FOUR, WRONG_STANDINGS,
                           WRONG_YARDS)
from tests.test_runs import random_instruction
from tests.wrongs import MILLION, RIGHT_PROGRAMS, SAY, SLIDES, WRONG_KEPT, numbers_but

NO_STRINGS = [None, True, False, 0, 1, -1, (), ("places 2",), [], ["places 2"], {}, {"places": 2}]
YARD_TEXT = "places 3\ntie 0 1\ntie 1 2\ngate 1"
# No numbers for words that would otherwise stand; none of them holds a space.
NO_NUMBER_WORDS = ["x", "", "00", "01", "0x1", "+1", "-0", "-00", "-01", "--1", "1-", "-", "1.0", "1e1", "1_0",
                   "\u00b2", "\u0661", "\uff11", "0" * 5000, "1" * 5000, "-" + "1" * 5000, "one", "None", "True",
                   "1\t", "\t1", "1\r", "1,", "'1'"]


class Lines(unittest.TestCase):

    def wrong(self, line, place, call, *rest):
        with self.subTest(rest=str(rest)[:300]):
            with self.assertRaises(BadLine) as caught:
                call(*rest)
            self.assertEqual((caught.exception.line, caught.exception.place), (line, place))


class Yards(Lines):

    def test_example(self):
        yard = read_yard("places 3\ntie 0 1\ntie 1 2\ngate 1")
        self.assertEqual([yard, read_standing(yard, "0 - 1"), write_program(1, (("slide", 2, 1), ("zero", 0)))],
                         [(3, ((0, 1), (1, 2)), 1), (0, None, 1), "slide 2 1\nzero 0"])
        self.wrong(2, 1, read_yard, "places 2\ngate 0")

    def test_written(self):
        self.assertEqual(write_yard((3, PATH[1], 1)), YARD_TEXT)
        self.assertEqual(write_yard(PAIR), "places 2\ntie 0 1\ngate 0")
        self.assertEqual(write_yard(KITE), "places 4\ntie 0 1\ntie 0 2\ntie 1 2\ntie 2 3\ngate 0")

    def test_written_and_read(self):
        for places in range(2, 5):
            for ties in samples.all_webs(places):
                for gate in range(places):
                    self.assertEqual(read_yard(write_yard((places, ties, gate))), (places, ties, gate))
        for yard in (BOW, RING_OF_SEVEN, SEVEN, THREE_BY_FOUR, ALL_TIED):
            self.assertEqual(read_yard(write_yard(yard)), yard)

    def test_spaces_and_void_lines(self):
        yard = (3, PATH[1], 1)
        self.assertEqual(read_yard("  places   3  \n tie  0 1\ntie 1   2 \n  gate 1"), yard)
        self.assertEqual(read_yard("\n\n" + YARD_TEXT + "\n\n  \n"), yard)
        self.assertEqual(read_yard(YARD_TEXT.replace("\n", "\n   \n\n")), yard)
        self.wrong(4, 1, read_yard, "\n\nplaces 2\nties 0 1\ngate 0")
        self.wrong(3, 3, read_yard, "\nplaces 2\n   tie   0    2\ngate 0")

    def test_only_spaces_part_words(self):
        for sign in "\t\r\x0b\x0c\x1c\x85\xa0\u2003\u2028":
            self.wrong(1, 1, read_yard, YARD_TEXT.replace("places ", "places" + sign))
            self.wrong(1, 2, read_yard, YARD_TEXT.replace("3\n", "3" + sign + "\n"))
            self.wrong(1, 1, read_yard, sign + "\n" + YARD_TEXT)
            self.wrong(5, 1, read_yard, YARD_TEXT + "\n" + sign)
            self.wrong(1, 2, read_yard, YARD_TEXT.replace("\n", sign))

    def test_void_texts(self):
        self.wrong(2, 1, read_yard, "")
        self.wrong(2, 1, read_yard, "   ")
        self.wrong(3, 1, read_yard, "\n")
        self.wrong(4, 1, read_yard, " \n\n ")

    def test_a_lacking_line(self):
        self.wrong(2, 1, read_yard, "places 3")
        self.wrong(3, 1, read_yard, "places 3\n")
        self.wrong(3, 1, read_yard, "places 3\ntie 0 1")
        self.wrong(4, 1, read_yard, "places 3\ntie 0 1\n")
        self.wrong(4, 1, read_yard, "places 3\ntie 0 1\ntie 1 2")
        self.wrong(7, 1, read_yard, "places 3\n\ntie 0 1\ntie 1 2\n \n")

    def test_the_places_line(self):
        for text in ["place 3", "Places 3", "tie 0 1", "gate 0", "3", "places3", "3 places", "x"]:
            self.wrong(1, 1, read_yard, text + "\n" + YARD_TEXT)
        self.wrong(1, 2, read_yard, "places\ntie 0 1\ngate 0")
        self.wrong(1, 3, read_yard, "places 2 2\ntie 0 1\ngate 0")
        self.wrong(1, 3, read_yard, "places 2 x y\ntie 0 1\ngate 0")
        for word in ["0", "1", "8", "9", "10", "-2", "02", "700", "places"]:
            self.wrong(1, 2, read_yard, "places " + word + "\ntie 0 1\ngate 0")
            self.wrong(1, 2, read_yard, "places " + word + " 3\ntie 0 1\ngate 0")

    def test_words_that_are_no_numbers(self):
        for word in NO_NUMBER_WORDS:
            if word != "":
                self.wrong(1, 2, read_yard, "places " + word + "\ntie 0 1\ngate 0")
                self.wrong(2, 2, read_yard, "places 2\ntie " + word + " 1\ngate 0")
                self.wrong(2, 3, read_yard, "places 2\ntie 0 " + word + "\ngate 0")
                self.wrong(3, 2, read_yard, "places 2\ntie 0 1\ngate " + word)

    def test_the_tie_lines(self):
        self.wrong(2, 2, read_yard, "places 3\ntie\ngate 0")
        self.wrong(2, 3, read_yard, "places 3\ntie 0\ngate 0")
        self.wrong(2, 4, read_yard, "places 3\ntie 0 1 2\ngate 0")
        self.wrong(2, 4, read_yard, "places 3\ntie 0 1 x y\ngate 0")
        self.wrong(2, 2, read_yard, "places 3\ntie 2 1 9 9\ngate 0")
        for word in ["2", "3", "-1", "9"]:
            self.wrong(2, 2, read_yard, "places 3\ntie " + word + " 2\ngate 0")
            self.wrong(2, 2, read_yard, "places 3\ntie " + word + "\ngate 0")
        for word in ["0", "1", "3", "-1"]:
            self.wrong(2, 3, read_yard, "places 3\ntie 1 " + word + "\ngate 0")

    def test_ties_in_their_order(self):
        self.wrong(3, 3, read_yard, "places 3\ntie 0 1\ntie 0 1\ngate 0")
        self.wrong(3, 3, read_yard, "places 3\ntie 0 2\ntie 0 1\ngate 0")
        self.wrong(3, 2, read_yard, "places 3\ntie 1 2\ntie 0 1\ngate 0")
        self.wrong(3, 2, read_yard, "places 3\ntie 1 2\ntie 0 9\ngate 0")
        self.wrong(3, 3, read_yard, "places 3\ntie 1 2\ntie 1 2\ngate 0")
        self.wrong(3, 3, read_yard, "places 3\ntie 0 2\ntie 0 2 3\ngate 0")
        self.wrong(4, 3, read_yard, "places 4\ntie 0 3\ntie 1 3\ntie 1 2\ngate 0")
        self.wrong(4, 2, read_yard, "places 4\ntie 0 3\ntie 1 3\ntie 0 1\ngate 0")
        self.assertEqual(read_yard("places 4\ntie 0 3\ntie 1 2\ntie 1 3\ngate 0"), (4, ((0, 3), (1, 2), (1, 3)), 0))

    def test_places_that_do_not_hang_together(self):
        self.wrong(3, 1, read_yard, "places 4\ntie 0 1\ngate 0")
        self.wrong(4, 1, read_yard, "places 4\ntie 0 1\ntie 2 3\ngate 0")
        self.wrong(6, 1, read_yard, "places 4\ntie 0 1\ntie 2 3\n\n\ngate 0")
        self.wrong(4, 1, read_yard, "places 4\ntie 1 2\ntie 1 3\ngate 9 9")
        self.wrong(4, 1, read_yard, "places 4\ntie 1 2\ntie 1 3\nx")
        self.wrong(5, 1, read_yard, "places 4\ntie 1 2\ntie 1 3\n")
        self.wrong(2, 1, read_yard, "places 2\nx")

    def test_the_gate_line(self):
        self.wrong(3, 1, read_yard, "places 2\ntie 0 1\ngates 0")
        self.wrong(3, 1, read_yard, "places 2\ntie 0 1\nplaces 2")
        self.wrong(3, 2, read_yard, "places 2\ntie 0 1\ngate")
        self.wrong(3, 3, read_yard, "places 2\ntie 0 1\ngate 0 0")
        for word in ["2", "-1", "7"]:
            self.wrong(3, 2, read_yard, "places 2\ntie 0 1\ngate " + word)
            self.wrong(3, 2, read_yard, "places 2\ntie 0 1\ngate " + word + "\ngate 0")

    def test_a_line_behind_the_gate(self):
        for line in ["gate 0", "tie 0 1", "x", "0"]:
            self.wrong(4, 1, read_yard, "places 2\ntie 0 1\ngate 0\n" + line)
            self.wrong(6, 1, read_yard, "places 2\ntie 0 1\ngate 0\n\n \n" + line + "\n" + line)

    def test_the_first_line_counts(self):
        self.wrong(1, 1, read_yard, "x\ny\nz")
        self.wrong(2, 2, read_yard, "places 2\ntie x\ngate y")

    def test_random_texts(self):
        # Whatever is read is a yard whose words are those of the text.
        chance = random.Random(20)
        told = []
        for _ in range(3000):
            words = write_yard(chance.choice([PAIR, PATH, KITE, BOW])).replace("\n", " \n ").split(" ")
            for _ in range(chance.randrange(3)):
                words[chance.randrange(len(words))] = chance.choice(["0", "1", "2", "3", "tie", "gate", "\n", "places"])
            text = " ".join(words)
            try:
                yard = read_yard(text)
            except BadLine as error:
                lines = text.split("\n")
                told.append(None)
                self.assertTrue(1 <= error.line <= len(lines) + 1 and error.place >= 1)
                many = len(lines[error.line - 1].split()) if error.line <= len(lines) else 0
                self.assertLessEqual(error.place, many + 1)
            else:
                told.append(yard)
                self.assertEqual(write_yard(yard).split(), text.split())
                self.assertEqual(write_yard(yard).split("\n"),
                                 [" ".join(line.split()) for line in text.split("\n") if line.strip()])
        self.assertGreater(told.count(None), 500)
        self.assertGreater(len(told) - told.count(None), 500)

    def test_wrong_arguments(self):
        for value, part in WRONG_YARDS:
            with self.assertRaises(BadYard) as caught:
                write_yard(value)
            self.assertEqual(caught.exception.part, part)
        for value in NO_STRINGS:
            self.assertRaises(BadString, read_yard, value)


class Standings(Lines):

    def test_written(self):
        self.assertEqual(write_standing(PATH, (0, None, 1)), "0 - 1")
        self.assertEqual(write_standing(PAIR, (None, 0)), "- 0")
        self.assertEqual(write_standing(KITE, (1, None, None, 0)), "1 - - 0")

    def test_written_and_read(self):
        for yard in (PAIR, PATH, KITE, BOW):
            for books in range(1, yard[0]):
                for standing in samples.all_standings_of(yard[0], books):
                    self.assertEqual(read_standing(yard, write_standing(yard, standing)), standing)
        full = (5, 4, None, 3, 2, 1, 0)
        self.assertEqual(read_standing(ALL_TIED, write_standing(ALL_TIED, full)), full)

    def test_spaces(self):
        self.assertEqual(read_standing(PATH, "   0  -   1 "), (0, None, 1))
        self.wrong(1, 2, read_standing, PATH, "   0  x   1 ")
        for sign in "\t\r\n":
            self.wrong(1, 1, read_standing, PATH, sign.join("0-1"))
            self.wrong(1, 1, read_standing, PATH, sign + "0 - 1")
            self.wrong(1, 3, read_standing, PATH, "0 - 1" + sign)

    def test_words_that_cannot_stand(self):
        for word in NO_NUMBER_WORDS + ["2", "3", "-1", "--", "9"]:
            if word not in ("", "-"):
                self.wrong(1, 1, read_standing, PATH, word + " - 0")
                self.wrong(1, 2, read_standing, PATH, "0 " + word + " -")
                self.wrong(1, 3, read_standing, PATH, "- 0 " + word)
        self.wrong(1, 3, read_standing, KITE, "0 - 3 -")
        # The first word counts, whatever is behind it.
        self.wrong(1, 1, read_standing, PATH, "x x")
        self.wrong(1, 2, read_standing, PATH, "0 0 0 0")

    def test_a_book_that_stood_before(self):
        self.wrong(1, 3, read_standing, PATH, "0 - 0")
        self.wrong(1, 2, read_standing, PATH, "1 1 -")
        self.wrong(1, 4, read_standing, KITE, "- 2 - 2")

    def test_too_many_and_too_few_words(self):
        self.wrong(1, 4, read_standing, PATH, "0 - 1 -")
        self.wrong(1, 4, read_standing, PATH, "0 - 1 x y")
        self.wrong(1, 4, read_standing, PATH, "- - - -")
        self.wrong(1, 1, read_standing, PATH, "")
        self.wrong(1, 1, read_standing, PATH, "   ")
        self.wrong(1, 2, read_standing, PATH, "0")
        self.wrong(1, 3, read_standing, PATH, "1 -")
        self.wrong(1, 3, read_standing, PATH, "- -")

    def test_no_book(self):
        self.wrong(1, 1, read_standing, PATH, "- - -")
        self.wrong(1, 1, read_standing, PAIR, "- -")

    def test_no_empty_place(self):
        # There is no number for the last book.
        self.wrong(1, 3, read_standing, PATH, "0 1 2")
        self.wrong(1, 2, read_standing, PAIR, "0 1")
        self.wrong(1, 3, read_standing, PATH, "1 0 1")
        self.wrong(1, 2, read_standing, KITE, "2 3 1 0")

    def test_a_book_that_is_not_below_their_number(self):
        self.wrong(1, 2, read_standing, PATH, "- 1 -")
        self.wrong(1, 1, read_standing, KITE, "2 0 - -")
        self.wrong(1, 3, read_standing, KITE, "- 0 2 -")
        self.wrong(1, 3, read_standing, KITE, "- 1 2 -")
        self.wrong(1, 2, read_standing, ALL_TIED, "- 3 5 4 - - -")
        self.assertEqual(read_standing(ALL_TIED, "- 2 0 1 - - -"), (None, 2, 0, 1, None, None, None))

    def test_wrong_arguments(self):
        for value, part in WRONG_YARDS:
            for call in (write_standing, read_standing):
                with self.assertRaises(BadYard) as caught:
                    call(value, None)
                self.assertEqual(caught.exception.part, part)
        for value in WRONG_STANDINGS:
            self.assertRaises(BadStanding, write_standing, PATH, value)
        for value in NO_STRINGS:
            self.assertRaises(BadString, read_standing, PATH, value)


class Programs(Lines):

    def test_written(self):
        program = (("get", 0), ("plus", 1), ("minus", 0), ("set", 1), ("put", -5), ("put", 0), SAY, ("ask",),
                   ("zero", 11), ("go", 0), ("stop",), ("slide", 6, 0))
        self.assertEqual(write_program(2, program),
                         "get 0\nplus 1\nminus 0\nset 1\nput -5\nput 0\nsay\nask\nzero 11\ngo 0\nstop\nslide 6 0")
        self.assertEqual(read_program(2, write_program(2, program)), program)
        self.assertEqual(write_program(1, (SAY,)), "say")

    def test_written_and_read(self):
        chance = random.Random(21)
        for program in RIGHT_PROGRAMS + [(slide,) for slide in SLIDES] + [(("put", -MILLION), ("put", MILLION))]:
            self.assertEqual(read_program(2, write_program(2, program)), program)
        for _ in range(300):
            books, many = chance.randrange(1, 7), chance.randrange(1, 40)
            program = tuple([random_instruction(chance, books, many) if chance.randrange(4) else
                             ("slide", chance.randrange(7), chance.randrange(7)) for _ in range(many)])
            self.assertEqual(read_program(books, write_program(books, program)), program)

    def test_spaces_and_void_lines(self):
        self.assertEqual(read_program(2, "\n  get   1 \n\n   \nsay\n"), (("get", 1), SAY))
        self.wrong(4, 2, read_program, 2, "\n  get   1 \n\n put  x\nsay\n")
        for sign in "\t\r":
            self.wrong(1, 1, read_program, 2, "get" + sign + "1")
            self.wrong(1, 1, read_program, 2, "say" + sign + "\nsay")

    def test_a_text_without_words(self):
        self.wrong(2, 1, read_program, 2, "")
        self.wrong(2, 1, read_program, 2, "  ")
        self.wrong(4, 1, read_program, 2, "\n \n")

    def test_words_that_are_no_instructions(self):
        for word in ["gets", "Get", "jump", "0", "x", "get0", "-", "say,", "\u00e9", "slides"]:
            self.wrong(1, 1, read_program, 2, word)
            self.wrong(2, 1, read_program, 2, "say\n" + word + " 0\nx")

    def test_a_word_lacking_or_too_much(self):
        for word in ["get", "plus", "minus", "set", "put", "zero", "go"]:
            self.wrong(1, 2, read_program, 2, word)
            self.wrong(1, 2, read_program, 2, word + " \nx")
            self.wrong(1, 3, read_program, 2, word + " 0 0")
            self.wrong(1, 3, read_program, 2, word + " 0 x y")
        for word in ["say", "ask", "stop"]:
            self.wrong(1, 2, read_program, 2, word + " 0")
            self.wrong(1, 2, read_program, 2, word + " say say")
        self.wrong(1, 2, read_program, 2, "slide")
        self.wrong(1, 3, read_program, 2, "slide 0")
        self.wrong(1, 4, read_program, 2, "slide 0 1 2")
        self.wrong(1, 2, read_program, 2, "slide x x x")

    def test_numbers_that_cannot_stand(self):
        for words in ["get", "plus", "minus", "set", "put", "zero", "go"]:
            for word in NO_NUMBER_WORDS + ["6001", "1000001", "-1000001", "9" * 30]:
                if word != "" and not (words == "put" and word == "6001"):
                    self.wrong(2, 2, read_program, 2, "say\n" + words + " " + word)
        for words in ["get", "plus", "minus", "set"]:
            for word in ["2", "-1", "6"]:
                self.wrong(1, 2, read_program, 2, words + " " + word)
            self.wrong(1, 2, read_program, 6, words + " 6")
            self.assertEqual(read_program(6, words + " 5"), ((words, 5),))
        for words in ["zero", "go"]:
            self.wrong(1, 2, read_program, 2, words + " -1")
        for word in NO_NUMBER_WORDS + ["7", "-1"]:
            if word != "":
                self.wrong(1, 2, read_program, 2, "slide " + word + " 0")
                self.wrong(1, 3, read_program, 2, "slide 0 " + word)
        self.assertEqual(read_program(2, "slide 6 6"), (("slide", 6, 6),))

    def test_put_with_a_minus(self):
        self.assertEqual(read_program(1, "put -1\nput -1000000\nput 1000000\nput 0"),
                         (("put", -1), ("put", -MILLION), ("put", MILLION), ("put", 0)))
        for word in ["-0", "-01", "--1", "- 1", "-", "-1000001", "1000001", "01", "00"]:
            self.wrong(1, 2, read_program, 1, "put " + word)

    def test_jumps(self):
        for word in ["zero", "go"]:
            self.assertEqual(read_program(1, word + " 0"), ((word, 0),))
            self.assertEqual(read_program(1, word + " 1"), ((word, 1),))
            self.assertEqual(read_program(1, "\nsay\n\n" + word + " 2"), (SAY, (word, 2)))
            self.wrong(1, 2, read_program, 1, word + " 2")
            self.wrong(4, 2, read_program, 1, "\nsay\n\n" + word + " 4\ngo 4\n")
            self.wrong(1, 2, read_program, 1, word + " 6000")
            # Lines are read first, and a jump to more than 6000 cannot be read.
            self.wrong(2, 1, read_program, 1, word + " 2\nx")
            self.wrong(2, 2, read_program, 1, word + " 5\n" + word + " 6001")
            self.wrong(1, 2, read_program, 1, word + " 6001\nx")

    def test_six_thousand_lines(self):
        text = "say\n" * 5999 + "go 6000"
        self.assertEqual(read_program(1, text), (SAY,) * 5999 + (("go", 6000),))
        self.assertEqual(read_program(1, "\n\n" + text + "\n\n"), (SAY,) * 5999 + (("go", 6000),))
        self.assertEqual(write_program(1, read_program(1, text)), text)
        self.wrong(6001, 1, read_program, 1, text + "\nsay")
        self.wrong(6004, 1, read_program, 1, "\n\n" + text + "\n\nsay 1 2\nsay")
        self.wrong(6002, 1, read_program, 1, "\nx\n" + text)
        self.wrong(6000, 1, read_program, 1, text.replace("go 6000", "x"))
        self.wrong(6001, 1, read_program, 1, "x\n" * 7000)

    def test_wrong_arguments(self):
        for value in numbers_but(1, 6):
            self.assertRaises(BadNumber, write_program, value, None)
            self.assertRaises(BadNumber, read_program, value, None)
        for value, index in WRONG_KEPT:
            if index is None or not any(isinstance(row, tuple) and row[:1] == ("slide",) for row in value):
                with self.subTest(value=str(value)[:200]):
                    with self.assertRaises(BadProgram) as caught:
                        write_program(2, value)
                    self.assertEqual(caught.exception.index, index)
        for row in [("slide", 0, 7), ("slide", 7, 0), ("slide", -1, 0), ("slide", True, 0), ("slide", 0), ("get", 2)]:
            with self.assertRaises(BadProgram) as caught:
                write_program(2, (SAY, row))
            self.assertEqual(caught.exception.index, 1)
        for value in NO_STRINGS:
            self.assertRaises(BadString, read_program, 2, value)


if __name__ == "__main__":
    unittest.main()
