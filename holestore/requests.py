"""How many slides it takes to bring books to the gate, one behind another."""

from holestore.checks import check_book, check_standing, check_yard, count_books
from holestore.errors import BadBook, NoWay
from holestore.yards import first_steps, moved, next_row, slides_at, way_back

MOST_ASKS = 20


def check_asks(standing, asks):
    """Raise BadBook for a value that is no asks."""
    if not isinstance(asks, tuple) or len(asks) > MOST_ASKS:
        raise BadBook("asks are a tuple of at most 20 books")
    for book in asks:
        check_book(standing, book)


def way_to_gate(yard, standing, book):
    """Return the least of the shortest tuples of slides that bring a book to the gate, None if it never comes."""
    steps = {standing: None}
    row = [standing]
    while row:
        # Standings are met in the order of the least tuples of slides that lead there.
        for here in row:
            if here[yard[2]] == book:
                return way_back(steps, here)
        row = next_row(yard[1], steps, row)
    return None


def fewest_slides(yard, standing, asks):
    """Return how few slides bring the asks to the gate, one behind another."""
    check_yard(yard)
    check_standing(yard, standing)
    check_asks(standing, asks)
    ahead = standings_ahead(yard[1], standing)
    done = {standing: 0}
    for book in asks:
        found = spread(ahead, done)
        done = {here: found[here] for here in found if here[yard[2]] == book}
        if not done:
            raise NoWay("a book that is asked for never comes to the gate")
    return min(done.values())


def standings_ahead(ties, standing):
    """Return a dict from each standing that can come to the list of those one slide behind it."""
    steps = first_steps(ties, standing)
    return {here: [moved(here, slide) for slide in slides_at(ties, here)] for here in steps}


def spread(ahead, done):
    """Return a dict from all standings to how few slides lead there, from some with so many slides already done."""
    waiting = {}
    for here, many in done.items():
        waiting.setdefault(many, []).append(here)
    many = min(waiting)
    found = {}
    while waiting:
        row = waiting.pop(many, [])
        many += 1
        for here in row:
            if here not in found:
                found[here] = many - 1
                waiting.setdefault(many, []).extend(ahead[here])
    return found


def nearest_slides(yard, standing, asks):
    """Return how many slides are done if each book is brought by the least of the shortest tuples of slides."""
    check_yard(yard)
    check_standing(yard, standing)
    check_asks(standing, asks)
    here = standing
    done = 0
    for book in asks:
        way = way_to_gate(yard, here, book)
        if way is None:
            raise NoWay("a book that is asked for never comes to the gate")
        done += len(way)
        for slide in way:
            here = moved(here, slide)
    return done


def farthest_ask(yard, standing):
    """Return the most slides that some book needs at least to come to the gate, None if one never comes."""
    check_yard(yard)
    check_standing(yard, standing)
    ways = [way_to_gate(yard, standing, book) for book in range(count_books(standing))]
    if None in ways:
        return None
    return max([len(way) for way in ways])
