"""What instructions, programs, kept programs and inputs are, and where a program stands."""

from holestore.checks import is_from, is_place, is_tuple_of
from holestore.errors import BadInputs, BadProgram

BOOK_WORDS = ("get", "plus", "minus", "set")
BARE_WORDS = ("say", "ask", "stop")
JUMP_WORDS = ("zero", "go")
LARGEST = 1000000
MOST_INSTRUCTIONS = 20
MOST_KEPT = 6000
MOST_INPUTS = 50


def is_instruction(value, books, many):
    """Tell whether a value is an instruction of a program for so many books with so many instructions."""
    if not isinstance(value, tuple) or not value or not isinstance(value[0], str):
        return False
    word = value[0]
    if word in BARE_WORDS:
        return len(value) == 1
    if len(value) != 2:
        return False
    if word in BOOK_WORDS:
        return is_from(value[1], 0, books - 1)
    if word in JUMP_WORDS:
        return is_from(value[1], 0, many)
    return word == "put" and is_from(value[1], -LARGEST, LARGEST)


def is_slide(value, places):
    """Tell whether a value is a slide as an instruction, with so many places."""
    if not is_tuple_of(value, 3):
        return False
    word, one, other = value
    return word == "slide" and is_place(one, places) and is_place(other, places)


def check_program(program, books):
    """Raise BadProgram for a value that is no program for so many books."""
    check_rows(program, MOST_INSTRUCTIONS)
    for index, value in enumerate(program):
        if not is_instruction(value, books, len(program)):
            raise BadProgram(index)


def check_kept(program, books, places):
    """Raise BadProgram for a value that is no kept program for so many books at so many places."""
    check_rows(program, MOST_KEPT)
    for index, value in enumerate(program):
        if not is_instruction(value, books, len(program)) and not is_slide(value, places):
            raise BadProgram(index)


def check_rows(program, most):
    """Raise BadProgram for a value that is no tuple of 1 to so many items."""
    if not isinstance(program, tuple) or not 1 <= len(program) <= most:
        raise BadProgram(None)


def check_inputs(inputs):
    """Raise BadInputs for a value that is no inputs."""
    if not isinstance(inputs, tuple) or len(inputs) > MOST_INPUTS:
        raise BadInputs("inputs are a tuple of at most 50 integers")
    if not all([is_from(each, -LARGEST, LARGEST) for each in inputs]):
        raise BadInputs("inputs are integers from -1000000 to 1000000")


def book_of(instruction):
    """Return the book that an instruction names, None for none."""
    if instruction[0] in BOOK_WORDS:
        return instruction[1]
    return None


def passed_gos(program):
    """Return a list that has, for each place from 0 to the end, where the program stands there, gos passed over.

    This is the index of an instruction that is no go, or -1 for the end.
    """
    landing = [None if instruction[0] == "go" else at for at, instruction in enumerate(program)] + [-1]
    for start in range(len(program)):
        trail = []
        here = start
        while landing[here] is None:
            # Gos that come back to here never come to another instruction: they are an end.
            landing[here] = -1
            trail.append(here)
            here = program[here][1]
        for at in trail:
            landing[at] = landing[here]
    return landing


def landings(program):
    """Return the list of passed_gos, with -1 also where the program stands at a stop."""
    return [-1 if at == -1 or program[at][0] == "stop" else at for at in passed_gos(program)]


def instructions_behind(program, landing, at):
    """Return the ascending list of the instructions at which a program may stand behind one, the end left out."""
    found = {landing[at + 1]: True}
    if program[at][0] == "zero":
        found[landing[program[at][1]]] = True
    return sorted([behind for behind in found if behind != -1])


def goes_on_for_ever(program, instructions):
    """Tell whether some course of a program goes on for ever, from the instructions at which it can stand."""
    landing = landings(program)
    left = instructions
    many = len(left) + 1
    while len(left) < many:
        many = len(left)
        # Behind an instruction that is left, some instruction is.
        left = [at for at in left if any([behind in left for behind in instructions_behind(program, landing, at)])]
    return many > 0
