"""A yard at work: slides are done, books are read and written at the gate, and ticks go by."""

from holestore.checks import check_book, check_number, check_standing, check_yard, count_books
from holestore.errors import BadSlide, NoWay
from holestore.programs import LARGEST
from holestore.requests import way_to_gate
from holestore.yards import is_slide_at, moved, slides_at


class Store:
    """A yard at work from a standing, all books holding 0."""

    def __init__(self, yard, standing):
        check_yard(yard)
        check_standing(yard, standing)
        self.yard = yard
        self._standing = standing
        self._held = [0] * count_books(standing)
        self._tick = 0

    @property
    def tick(self):
        """How many ticks have gone by."""
        return self._tick

    @property
    def standing(self):
        """Where the books lie now."""
        return self._standing

    @property
    def held(self):
        """The tuple of what the books hold."""
        return tuple(self._held)

    @property
    def ways(self):
        """The ascending tuple of the slides that can be done."""
        return tuple(slides_at(self.yard[1], self._standing))

    def slide(self, one, other):
        """Do a slide."""
        if not is_slide_at(self.yard[1], self._standing, (one, other)):
            raise BadSlide("no slide that can be done")
        self._standing = moved(self._standing, (one, other))
        self._tick += 1

    def read(self):
        """Return what the book at the gate holds, None for an empty gate."""
        self._tick += 1
        book = self._standing[self.yard[2]]
        if book is None:
            return None
        return self._held[book]

    def write(self, value):
        """Write a number into the book at the gate, and return whether there is one."""
        check_number(value, -LARGEST, LARGEST)
        self._tick += 1
        book = self._standing[self.yard[2]]
        if book is None:
            return False
        self._held[book] = value
        return True

    def bring(self, book):
        """Bring a book to the gate by the least of the shortest tuples of slides, and return it."""
        check_book(self._standing, book)
        way = way_to_gate(self.yard, self._standing, book)
        if way is None:
            raise NoWay("the book never comes to the gate")
        for one, other in way:
            self.slide(one, other)
        return way
