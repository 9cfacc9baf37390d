"""How many standings come, and the sign that each slide turns."""

from math import factorial

from holestore.checks import check_one_empty, check_yard, neighbours
from holestore.webs import kind_of_piece, ties_of_pieces


def orders(yard):
    """Return how many standings with the same empty place come of one with one empty place."""
    check_yard(yard)
    many = 1
    for ties in ties_of_pieces(yard[1]):
        many = many * orders_of_piece(kind_of_piece(ties), len(neighbours(ties)))
    return many


def orders_of_piece(word, places):
    """Return what a piece of a kind, with so many places, gives to the number of orders."""
    if word == "tie":
        return 1
    if word == "ring":
        return places - 1
    if word == "seven":
        return 120
    if word == "sides":
        return factorial(places - 1) // 2
    return factorial(places - 1)


def all_standings(yard, standing):
    """Return how many standings come of one with one empty place."""
    check_yard(yard)
    check_one_empty(yard, standing)
    return yard[0] * orders(yard)


def sign(yard, standing):
    """Return 1 if the number of pairs of places of which the former has the greater book is odd, otherwise 0."""
    check_yard(yard)
    check_one_empty(yard, standing)
    # The empty place is taken for a book greater than all.
    row = [yard[0] if item is None else item for item in standing]
    turned = [1 for place, item in enumerate(row) for latter in row[place + 1:] if item > latter]
    return len(turned) % 2
