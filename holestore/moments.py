"""The moments of a program in a yard, and the moves that can be done at them."""

from holestore.errors import NoWay, TooMany
from holestore.programs import book_of, goes_on_for_ever, instructions_behind, landings
from holestore.rooms import lost_books
from holestore.runs import is_stuck
from holestore.writing import ways_to_instructions
from holestore.yards import first_steps, moved, slides_at

MOST_MOMENTS = 600


class Moments:
    """The moments of a program that can be carried, numbered from 0, the beginning first.

    Spots has the pair (instruction, standing) of each. Moves has for each the list of its moves, each a pair: the
    slide, or None for the instruction; and the list of the moments to which it may lead, the end left out.
    """

    def __init__(self, yard, standing, program):
        standings = list(first_steps(yard[1], standing))
        lost = lost_books(yard, standing)
        instructions = list(ways_to_instructions(program, lost))
        if len(instructions) * len(standings) > MOST_MOMENTS:
            raise TooMany(MOST_MOMENTS)
        if any([book_of(program[at]) in lost for at in instructions]):
            raise NoWay("a book that the program names never comes to the gate")
        self.is_endless = goes_on_for_ever(program, instructions)
        self.yard = yard
        self.program = program
        self.landing = landings(program)
        self.spots = [(at, here) for at in instructions for here in standings]
        self.number = {spot: mark for mark, spot in enumerate(self.spots)}
        self.moves = [self.moves_at(at, here) for at, here in self.spots]

    def moves_at(self, at, here):
        """Return the list of the moves at a moment."""
        found = [(slide, [self.number[(at, moved(here, slide))]]) for slide in slides_at(self.yard[1], here)]
        if not is_stuck(self.yard, here, self.program[at]):
            behind = instructions_behind(self.program, self.landing, at)
            found.append((None, [self.number[(ahead, here)] for ahead in behind]))
        return found
