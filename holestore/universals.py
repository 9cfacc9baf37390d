"""All programs at once: the yards that keep each of them, and the hardest one to keep."""

from holestore.checks import check_number
from holestore.rooms import is_free


def keeps_all(yard):
    """Tell whether every program can be carried from every standing with one empty place."""
    return is_free(yard)


def hardest(books):
    """Return the program that can be carried from a standing exactly if all with so many books can."""
    check_number(books, 1, 6)
    rows = [("ask",), ("zero", 0)]
    for book in range(books):
        rows.append(("get", book))
        rows.append(("say",))
    return tuple(rows)
