"""Yards with more empty places: the classes of their standings, and how many books can always come to the gate."""

from math import perm

from holestore.checks import check_number, check_yard
from holestore.rooms import lost_books
from holestore.yards import first_steps


def count_classes(yard, books):
    """Return how many classes of standings with so many books there are."""
    check_yard(yard)
    check_number(books, 1, yard[0] - 1)
    # Slides bring empty places anywhere, books taken for alike, so that each class comes of each other by calling
    # its books otherwise: all are of one size.
    return perm(yard[0], books) // len(first_steps(yard[1], some_standing(yard, books)))


def some_standing(yard, books):
    """Return a standing of the yard with so many books."""
    return tuple(range(books)) + (None,) * (yard[0] - books)


def most_books(yard):
    """Return the most books such that from every standing with so many every one can come to the gate."""
    check_yard(yard)
    many = yard[0] - 1
    # All classes are alike but for what their books are called, so that one standing tells for all. A book alone
    # comes everywhere.
    while lost_books(yard, some_standing(yard, many)):
        many -= 1
    return many
