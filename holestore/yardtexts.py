"""Texts of yards, standings and programs: how they are written and read."""

from holestore.checks import are_ties, check_number, check_standing, check_yard
from holestore.errors import BadLine
from holestore.programs import BARE_WORDS, BOOK_WORDS, JUMP_WORDS, LARGEST, MOST_KEPT, check_kept
from holestore.words import check_string, number_of, words_of

MOST_PLACES = 7


def write_yard(yard):
    """Return the text of a yard."""
    check_yard(yard)
    places, ties, gate = yard
    rows = [("places", places)] + [("tie",) + tie for tie in ties] + [("gate", gate)]
    return "\n".join([written(row) for row in rows])


def written(row):
    """Return the line for a word and its numbers."""
    return " ".join([str(item) for item in row])


def rows_of(text):
    """Return the list of the pairs (line, words) of the lines of a text that have words, lines numbered from 1."""
    rows = [(at + 1, words_of(line)) for at, line in enumerate(text.split("\n"))]
    return [row for row in rows if row[1]]


def row_behind(text):
    """Return the pair (line, words) of the line behind the last one of a text."""
    return (len(text.split("\n")) + 1, [])


def number_at(row, place, least, most):
    """Return the number from least to most at a place of a row; the places ahead of it have been read."""
    line, words = row
    number = number_of(words[place - 1], least, most) if place <= len(words) else None
    if number is None:
        raise BadLine(line, place)
    return number


def check_length(row, most):
    """Raise BadLine for a row of more than so many words."""
    line, words = row
    if len(words) > most:
        raise BadLine(line, most + 1)


def read_yard(text):
    """Return the yard of a text."""
    check_string(text)
    # What is read where a line is lacking is a row without words.
    rows = rows_of(text) + [row_behind(text)]
    places = read_single(rows[0], "places", 2, MOST_PLACES)
    ties = read_ties(rows[1:], places)
    rest = rows[1 + len(ties):]
    if not are_ties(ties, places):
        raise BadLine(rest[0][0], 1)
    gate = read_single(rest[0], "gate", 0, places - 1)
    check_length(rest[1], 0)
    return (places, ties, gate)


def read_single(row, word, least, most):
    """Return the number of a row that must be a word and a number from least to most."""
    line, words = row
    if words[:1] != [word]:
        raise BadLine(line, 1)
    number = number_at(row, 2, least, most)
    check_length(row, 2)
    return number


def read_ties(rows, places):
    """Return the tuple of the ties that rows tell, up to the first row that tells none."""
    ties = []
    last = (0, 0)
    for row in rows:
        if row[1][:1] != ["tie"]:
            break
        last = read_tie(row, places, last)
        ties.append(last)
    return tuple(ties)


def read_tie(row, places, last):
    """Return the tie that a row tells, which stands behind the last one."""
    one = number_at(row, 2, last[0], places - 2)
    least = last[1] + 1 if one == last[0] else one + 1
    other = number_at(row, 3, least, places - 1)
    check_length(row, 3)
    return (one, other)


def write_standing(yard, standing):
    """Return the text of a standing."""
    check_yard(yard)
    check_standing(yard, standing)
    return " ".join(["-" if item is None else str(item) for item in standing])


def read_standing(yard, text):
    """Return the standing of a yard that a text tells."""
    check_yard(yard)
    check_string(text)
    words = words_of(text)
    items = []
    for at, word in enumerate(words):
        items.append(read_item(word, at, items, yard[0]))
    if len(items) < yard[0]:
        raise BadLine(1, len(items) + 1)
    books = len(items) - items.count(None)
    # As many unlike books as places cannot have been read, since the last one has no number that may stand.
    if books == 0:
        raise BadLine(1, 1)
    for at, item in enumerate(items):
        if item is not None and item >= books:
            raise BadLine(1, at + 1)
    return tuple(items)


def read_item(word, at, items, places):
    """Return what a word of a standing tells, the book or None, behind the items ahead of it."""
    if at == places:
        raise BadLine(1, at + 1)
    if word == "-":
        return None
    book = number_of(word, 0, places - 2)
    if book is None or book in items:
        raise BadLine(1, at + 1)
    return book


def write_program(books, program):
    """Return the text of a program or a kept program."""
    check_number(books, 1, MOST_PLACES - 1)
    check_kept(program, books, MOST_PLACES)
    return "\n".join([written(instruction) for instruction in program])


def read_program(books, text):
    """Return the program or kept program that a text tells."""
    check_number(books, 1, MOST_PLACES - 1)
    check_string(text)
    rows = rows_of(text)
    if len(rows) > MOST_KEPT:
        raise BadLine(rows[MOST_KEPT][0], 1)
    program = tuple([read_instruction(row, books) for row in rows])
    if not program:
        raise BadLine(row_behind(text)[0], 1)
    for row, instruction in zip(rows, program):
        if instruction[0] in JUMP_WORDS and instruction[1] > len(program):
            raise BadLine(row[0], 2)
    return program


def read_instruction(row, books):
    """Return the instruction that a row tells."""
    line, words = row
    bounds = bounds_of(words[0], books)
    if bounds is None:
        raise BadLine(line, 1)
    numbers = [number_at(row, at + 2, least, most) for at, (least, most) in enumerate(bounds)]
    check_length(row, 1 + len(bounds))
    return (words[0],) + tuple(numbers)


def bounds_of(word, books):
    """Return the list of the bounds of the numbers behind the word of an instruction, None for no such word."""
    if word in BOOK_WORDS:
        return [(0, books - 1)]
    if word in JUMP_WORDS:
        return [(0, MOST_KEPT)]
    if word in BARE_WORDS:
        return []
    if word == "put":
        return [(-LARGEST, LARGEST)]
    if word == "slide":
        return [(0, MOST_PLACES - 1), (0, MOST_PLACES - 1)]
    return None
