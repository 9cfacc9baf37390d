"""A desk: a yard at work and a program, and the answers to lines about them."""

from holestore.benches import Store
from holestore.checks import count_books
from holestore.errors import BadBook, BadSlide, NoWay
from holestore.holes import most_books
from holestore.orders import orders
from holestore.programs import LARGEST, check_program
from holestore.rooms import is_free, never
from holestore.shares import share
from holestore.webs import parting, pieces
from holestore.words import check_string, number_of, words_of
from holestore.writing import can_be_kept, kept
from holestore.yardtexts import read_program, read_standing, read_yard, write_program, write_standing

NO_NUMBER = "no such number"


def joined(numbers):
    """Return numbers as words parted by a space, a dash for none."""
    if not numbers:
        return "-"
    return " ".join([str(number) for number in numbers])


def yes_or_no(truth):
    """Return the word for a truth."""
    return "yes" if truth else "no"


def number_or_empty(number):
    """Return the word for a number, empty for None."""
    return "empty" if number is None else str(number)


def place_of(store, word):
    """Return the place of a yard at work that a word tells, None for another word."""
    return number_of(word, 0, store.yard[0] - 1)


def answer_slide(store, words):
    """Do a slide."""
    one, other = place_of(store, words[0]), place_of(store, words[1])
    if one is None or other is None:
        return NO_NUMBER
    try:
        store.slide(one, other)
    except BadSlide:
        return "no slide"
    return "done"


def answer_bring(store, words):
    """Bring a book to the gate."""
    book = place_of(store, words[0])
    if book is None:
        return NO_NUMBER
    try:
        return str(len(store.bring(book)))
    except BadBook:
        return "no book"
    except NoWay:
        return "no way"


def answer_read(store, _):
    """Read the book at the gate."""
    return number_or_empty(store.read())


def answer_write(store, words):
    """Write a number into the book at the gate."""
    number = number_of(words[0], -LARGEST, LARGEST)
    if number is None:
        return NO_NUMBER
    return "done" if store.write(number) else "empty"


def answer_tick(store, _):
    """Tell how many ticks have gone by."""
    return str(store.tick)


def answer_standing(store, _):
    """Tell where the books lie."""
    return write_standing(store.yard, store.standing)


def answer_held(store, _):
    """Tell what the books hold."""
    return joined(store.held)


def answer_never(store, _):
    """Tell which books never come to the gate."""
    if store.standing.count(None) > 1:
        return "more holes"
    return joined(never(store.yard, store.standing))


def answer_parting(store, _):
    """Tell which places part the web."""
    return joined(parting(store.yard))


def answer_pieces(store, _):
    """Tell the places of the pieces."""
    return "; ".join([joined(places) for places in pieces(store.yard)])


def answer_free(store, _):
    """Tell whether the yard is free."""
    return yes_or_no(is_free(store.yard))


def answer_orders(store, _):
    """Tell how many standings with the same empty place come."""
    return str(orders(store.yard))


def answer_most(store, _):
    """Tell how many books can always come to the gate."""
    return str(most_books(store.yard))


def answer_keep(store, program):
    """Tell whether the program can be kept."""
    return yes_or_no(can_be_kept(store.yard, store.standing, program))


def answer_share(store, program):
    """Tell the share of the program."""
    try:
        ratio = share(store.yard, store.standing, program)
    except NoWay:
        return "no way"
    if ratio is None:
        return "-"
    top, low = ratio
    return f"{top} of {low}"


def answer_kept(store, program):
    """Tell a kept program."""
    try:
        rows = kept(store.yard, store.standing, program)
    except NoWay:
        return "no way"
    return write_program(count_books(store.standing), rows).replace("\n", "; ")


# How many words stand behind the first one of a line, and what answers it.
COUNTS = {"slide": 2, "bring": 1, "read": 0, "write": 1, "tick": 0, "standing": 0, "held": 0, "never": 0,
          "parting": 0, "pieces": 0, "free": 0, "orders": 0, "most": 0, "keep": 0, "share": 0, "kept": 0}
ANSWERS = {"slide": answer_slide, "bring": answer_bring, "read": answer_read, "write": answer_write,
           "tick": answer_tick, "standing": answer_standing, "held": answer_held, "never": answer_never,
           "parting": answer_parting, "pieces": answer_pieces, "free": answer_free, "orders": answer_orders,
           "most": answer_most}
PROGRAM_ANSWERS = {"keep": answer_keep, "share": answer_share, "kept": answer_kept}


class Desk:
    """A desk, without a yard and a program at first."""

    def __init__(self):
        self._store = None
        self._program = None

    def take_yard(self, text, line):
        """Take the yard of a text, at work from the standing of a line, and no program."""
        yard = read_yard(text)
        self._store = Store(yard, read_standing(yard, line))
        self._program = None

    def take_program(self, text):
        """Take a program for the books of the yard at work."""
        check_string(text)
        if self._store is None:
            return "no yard"
        books = count_books(self._store.standing)
        program = read_program(books, text)
        check_program(program, books)
        self._program = program
        return "taken"

    def say(self, line):
        """Return the answer to a line."""
        words = words_of(line) if isinstance(line, str) else []
        if not words or COUNTS.get(words[0]) != len(words) - 1:
            return "what"
        if self._store is None:
            return "no yard"
        if words[0] in ANSWERS:
            answer = ANSWERS[words[0]]
            return answer(self._store, words[1:])
        if self._program is None:
            return "no program"
        answer = PROGRAM_ANSWERS[words[0]]
        return answer(self._store, self._program)
