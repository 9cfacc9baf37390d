"""What yards, places and standings are, and the errors for other values."""

from holestore.errors import BadBook, BadNumber, BadPlace, BadStanding, BadYard


def is_number(value):
    """Tell whether a value is an integer as the document means it."""
    # To Python, True and False are integers, too.
    return isinstance(value, int) and not isinstance(value, bool)


def is_tuple_of(value, many):
    """Tell whether a value is a tuple of so many items."""
    return isinstance(value, tuple) and len(value) == many


def is_from(value, least, most):
    """Tell whether a value is an integer from least to most."""
    return is_number(value) and least <= value <= most


def is_place(value, places):
    """Tell whether a value is one of so many places."""
    return is_from(value, 0, places - 1)


def is_tie(value, places):
    """Tell whether a value is an ascending pair of places."""
    if not is_tuple_of(value, 2):
        return False
    one, other = value
    return is_place(one, places) and is_place(other, places) and one < other


def neighbours(ties):
    """Return a dict that has, for each place at the ties, the list of the places tied to it."""
    near = {}
    for one, other in ties:
        near.setdefault(one, []).append(other)
        near.setdefault(other, []).append(one)
    return near


def hanging(near, start, without):
    """Return the ascending list of the places that hang together with start, one place taken away (None: no place)."""
    met = {start: True}
    todo = [start]
    while todo:
        here = todo.pop()
        for place in near[here]:
            if place != without and place not in met:
                met[place] = True
                todo.append(place)
    return sorted(met)


def are_ties(value, places):
    """Tell whether a value is an ascending tuple of ties by which all places hang together."""
    if not isinstance(value, tuple) or not value:
        return False
    for tie in value:
        if not is_tie(tie, places):
            return False
    for former, latter in zip(value, value[1:]):
        if former >= latter:
            return False
    return len(hanging(neighbours(value), value[0][0], None)) == places


def check_yard(yard):
    """Raise BadYard, with the first word that names what is wrong, for a value that is no yard."""
    if not is_tuple_of(yard, 3):
        raise BadYard("yard")
    places, ties, gate = yard
    if not is_from(places, 2, 7):
        raise BadYard("places")
    if not are_ties(ties, places):
        raise BadYard("ties")
    if not is_place(gate, places):
        raise BadYard("gate")


def check_place(yard, place):
    """Raise BadPlace for a value that is no place of the yard."""
    if not is_place(place, yard[0]):
        raise BadPlace("no place of the yard")


def check_standing(yard, standing):
    """Raise BadStanding for a value that is no standing of the yard."""
    places = yard[0]
    if not is_tuple_of(standing, places):
        raise BadStanding("a standing is a tuple with an item for each place")
    books = [item for item in standing if item is not None]
    if not all([is_number(book) for book in books]):
        raise BadStanding("a standing holds numbers of books and None")
    if not books or len(books) == places:
        raise BadStanding("a standing has at least one book and one empty place")
    if sorted(books) != list(range(len(books))):
        raise BadStanding("books are numbered from 0, and each lies once")


def check_one_empty(yard, standing):
    """Raise BadStanding for a value that is no standing of the yard with one empty place."""
    check_standing(yard, standing)
    if standing.count(None) > 1:
        raise BadStanding("there is more than one empty place")


def count_books(standing):
    """Return how many books lie at a standing."""
    return len(standing) - standing.count(None)


def check_book(standing, book):
    """Raise BadBook for a value that is no book of the standing."""
    if not is_from(book, 0, count_books(standing) - 1):
        raise BadBook("no book of the standing")


def check_number(value, least, most):
    """Raise BadNumber for a value that is no integer from least to most."""
    if not is_from(value, least, most):
        raise BadNumber("no number from those that may be passed")
