"""Runs of programs on a still memory, and of kept programs in a yard."""

from holestore.checks import check_number, check_standing, check_yard, count_books
from holestore.programs import BOOK_WORDS, book_of, check_inputs, check_kept, check_program, landings
from holestore.yards import can_slide, moved

MOST_TICKS = 20000


class Run:
    """A run of a program: what the hand and the books hold, what is said, and where it stands."""

    def __init__(self, program, books, inputs):
        self.program = program
        self.landing = landings(program)
        self.at = self.landing[0]
        self.hand = 0
        self.contents = [0] * books
        self.inputs = inputs
        self.asked = 0
        self.said = []

    def instruction(self):
        """Return the instruction at which it stands."""
        return self.program[self.at]

    def is_over(self):
        """Tell whether it stands at the end."""
        return self.at == -1

    def do(self):
        """Do the instruction at which it stands, a slide's passing by, and go on."""
        instruction = self.instruction()
        word = instruction[0]
        ahead = self.at + 1
        if word in BOOK_WORDS:
            self.use_book(word, instruction[1])
        if word == "put":
            self.hand = instruction[1]
        if word == "say":
            self.said.append(self.hand)
        if word == "ask":
            self.hand = self.next_input()
        if word == "zero" and self.hand == 0:
            ahead = instruction[1]
        self.at = self.landing[ahead]

    def use_book(self, word, book):
        """Do an instruction that names a book."""
        if word == "get":
            self.hand = self.contents[book]
        if word == "plus":
            self.hand = self.hand + self.contents[book]
        if word == "minus":
            self.hand = self.hand - self.contents[book]
        if word == "set":
            self.contents[book] = self.hand

    def next_input(self):
        """Return the next input, 0 if there is none."""
        self.asked += 1
        if self.asked > len(self.inputs):
            return 0
        return self.inputs[self.asked - 1]

    def told(self, word, many):
        """Return what is told of the run when it ends."""
        return (tuple(self.said), word, many)

    def told_at_last(self, many):
        """Return what is told of the run if nothing is stuck."""
        return self.told("stopped" if self.is_over() else "running", many)


def run_still(books, program, inputs, most):
    """Return what a run in which all books can always be had says, how it ends, and its number of instructions."""
    check_number(books, 1, 6)
    check_program(program, books)
    check_inputs(inputs)
    check_number(most, 0, MOST_TICKS)
    run = Run(program, books, inputs)
    done = 0
    while not run.is_over() and done < most:
        run.do()
        done += 1
    return run.told_at_last(done)


def run_yard(yard, standing, program, inputs, most):
    """Return what a run of a kept program says, how it ends, and its number of ticks."""
    check_yard(yard)
    check_standing(yard, standing)
    check_kept(program, count_books(standing), yard[0])
    check_inputs(inputs)
    check_number(most, 0, MOST_TICKS)
    run = Run(program, count_books(standing), inputs)
    here = standing
    ticks = 0
    while not run.is_over() and ticks < most:
        instruction = run.instruction()
        if is_stuck(yard, here, instruction):
            return run.told("stuck", ticks)
        here = behind_instruction(here, instruction)
        run.do()
        ticks += 1
    return run.told_at_last(ticks)


def is_stuck(yard, standing, instruction):
    """Tell whether an instruction of a kept program is stuck at a standing."""
    if instruction[0] == "slide":
        return not can_slide(yard[1], standing, instruction[1:])
    book = book_of(instruction)
    return book is not None and standing[yard[2]] != book


def behind_instruction(standing, instruction):
    """Return the standing behind an instruction that is not stuck."""
    if instruction[0] == "slide":
        return moved(standing, instruction[1:])
    return standing
