"""Kept programs laid out in rows, from what is done with each pair of an instruction and a standing."""

from holestore.programs import passed_gos
from holestore.yards import moved


class Layout:
    """The rows of a kept program while they are written.

    A spot is a pair of where the program stands and the standing there, (-1, None) for the end, and (at, None) for a
    stop. Until all rows are written, a jump holds the spot to which it leads.
    """

    def __init__(self, program, moves):
        self.program = program
        self.moves = moves
        self.landing = passed_gos(program)
        self.rows = []
        self.placed = {}
        self.waiting = []

    def spot(self, place, standing):
        """Return the spot for a place of the program."""
        at = self.landing[place]
        if at == -1 or self.program[at][0] == "stop":
            return (at, None)
        return (at, standing)

    def write(self, spot):
        """Write the row of a spot, and return the spot behind it, None behind a stop."""
        at, standing = spot
        self.placed[spot] = len(self.rows)
        instruction = self.program[at]
        if instruction[0] == "stop":
            self.rows.append(instruction)
            return None
        slide = self.moves[spot]
        if slide is not None:
            self.rows.append(("slide",) + slide)
            return (at, moved(standing, slide))
        if instruction[0] == "zero":
            jump = self.spot(instruction[1], standing)
            self.waiting.append(jump)
            self.rows.append(("zero", jump))
        else:
            self.rows.append(instruction)
        return self.spot(at + 1, standing)

    def write_on(self, spot):
        """Write rows from a spot until they come to an end or to what is written."""
        while spot is not None and spot[0] != -1 and spot not in self.placed:
            spot = self.write(spot)
        if spot is not None:
            self.rows.append(("go", spot))

    def write_all(self, standing):
        """Write all rows, from the beginning of the program at a standing."""
        self.waiting.append(self.spot(0, standing))
        while self.waiting:
            spot = self.waiting.pop()
            if spot not in self.placed and (spot[0] != -1 or not self.rows):
                self.write_on(spot)
        # The end is behind the last row, so that this need not be a go to it.
        if len(self.rows) > 1 and self.rows[-1] == ("go", (-1, None)):
            self.rows.pop()
        self.placed[(-1, None)] = len(self.rows)

    def finished(self):
        """Return the tuple of the rows, with numbers for the spots."""
        return tuple([self.numbered(row) for row in self.rows])

    def numbered(self, row):
        """Return a row with the number of the row to which it leads."""
        if row[0] == "zero" or row[0] == "go":
            return (row[0], self.placed[row[1]])
        return row


def written_out(program, standing, moves):
    """Return the kept program that does what moves tells.

    Moves is a dict that has, for each pair of an instruction and a standing that comes, the slide that is done there,
    or None where the instruction is done.
    """
    layout = Layout(program, moves)
    layout.write_all(standing)
    return layout.finished()
