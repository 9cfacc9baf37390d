"""Where books come: their rooms, those that never come to the gate, and the places that bar them from it."""

from holestore.checks import check_book, check_one_empty, check_standing, check_yard, hanging, is_place, neighbours
from holestore.webs import parting, ties_of_pieces
from holestore.yards import first_steps


def room(yard, standing, book):
    """Return the ascending tuple of the places to which a book can come."""
    check_yard(yard)
    check_one_empty(yard, standing)
    check_book(standing, book)
    return rooms_at(yard[1], standing)[book]


def rooms(yard, standing):
    """Return the tuple of the rooms of all books, with any number of empty places."""
    check_yard(yard)
    check_standing(yard, standing)
    return tuple(rooms_at(yard[1], standing))


def rooms_at(ties, standing):
    """Return the list of the rooms of all books at a standing."""
    if standing.count(None) == 1:
        return rooms_beside_hole(ties, standing)
    return rooms_met(ties, standing)


def rooms_beside_hole(ties, standing):
    """Return the list of the rooms at a standing with one empty place."""
    near = neighbours(ties)
    members = [sorted(neighbours(piece)) for piece in ties_of_pieces(ties)]
    hole = standing.index(None)
    found = []
    for book in range(len(standing) - 1):
        place = standing.index(book)
        beyond = hanging(near, hole, place)
        found.extend([tuple(piece) for piece in members if leads(piece, place, beyond)])
    return found


def leads(piece, place, beyond):
    """Tell whether a piece is at a place and has another one of the places beyond it."""
    return place in piece and any([member in beyond for member in piece if member != place])


def rooms_met(ties, standing):
    """Return the list of the rooms at a standing by all standings that can come."""
    met = [{} for item in standing if item is not None]
    for here in first_steps(ties, standing):
        for place, item in enumerate(here):
            if item is not None:
                met[item][place] = True
    return [tuple(sorted(places)) for places in met]


def never(yard, standing):
    """Return the ascending tuple of the books that never come to the gate."""
    check_yard(yard)
    check_one_empty(yard, standing)
    return tuple(lost_books(yard, standing))


def lost_books(yard, standing):
    """Return the ascending list of the books that never come to the gate, with any number of empty places."""
    return [book for book, places in enumerate(rooms_at(yard[1], standing)) if yard[2] not in places]


def bar(yard, standing, book):
    """Return None if a book comes to the gate, otherwise a place of its room that keeps it from there."""
    places = room(yard, standing, book)
    if yard[2] in places:
        return None
    # No place parts a piece, so it hangs at the gate by one of its places, and there is one bar.
    return [place for place in places if is_bar(yard, places, place)][0]


def is_bar(yard, places, place):
    """Tell whether the gate does not hang together with the other places of a room without one of them."""
    together = hanging(neighbours(yard[1]), yard[2], place)
    return not any([member in together for member in places if member != place])


def shows_bar(yard, standing, book, value):
    """Tell whether a value is a place that bar may return."""
    places = room(yard, standing, book)
    if yard[2] in places or not is_place(value, yard[0]):
        return False
    return value in places and is_bar(yard, places, value)


def is_free(yard):
    """Tell whether from every standing with one empty place every book can come to the gate."""
    return not any([place != yard[2] for place in parting(yard)])
