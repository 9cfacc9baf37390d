"""Whether a kept program carries a program: both are walked together, each zero going either way."""

from holestore.checks import check_standing, check_yard, count_books
from holestore.programs import check_kept, check_program, landings
from holestore.runs import is_stuck
from holestore.yards import moved


class Walk:
    """A program and a kept program that are walked together in a yard."""

    def __init__(self, yard, program, kept):
        self.yard = yard
        self.program = program
        self.kept = kept
        self.landing = landings(program)
        self.kept_landing = landings(kept)

    def behind_slides(self, spot, standing):
        """Return where the kept program stands behind its slides, and the standing there; None if it is stuck."""
        met = {}
        while spot != -1 and self.kept[spot][0] == "slide":
            slide = self.kept[spot]
            # Slides that come back to the same place and standing are slides for ever.
            if (spot, standing) in met or is_stuck(self.yard, standing, slide):
                return None
            met[(spot, standing)] = True
            standing = moved(standing, slide[1:])
            spot = self.kept_landing[spot + 1]
        return (spot, standing)

    def go_on(self, at, spot, standing):
        """Return (word, list of what comes next) for the program at one place and the kept one at another.

        The word is None unless it goes wrong; what comes next are places of both and the standing there.
        """
        behind = self.behind_slides(spot, standing)
        if behind is None:
            return ("stuck", [])
        spot, standing = behind
        if spot == -1:
            return (None if at == -1 else "unlike", [])
        instruction = self.kept[spot]
        if is_stuck(self.yard, standing, instruction):
            return ("stuck", [])
        if at == -1 or not are_alike(self.program[at], instruction):
            return ("unlike", [])
        found = [(self.landing[at + 1], self.kept_landing[spot + 1], standing)]
        if instruction[0] == "zero":
            found.append((self.landing[self.program[at][1]], self.kept_landing[instruction[1]], standing))
        return (None, found)

    def go_all_on(self, at, states):
        """Return the list of words for what goes wrong of some states, and a dict of what comes next by its place."""
        words = []
        behind = {}
        for spot, standing in states:
            word, found = self.go_on(at, spot, standing)
            if word is not None:
                words.append(word)
            for ahead, kept_spot, here in found:
                behind.setdefault(ahead, []).append((kept_spot, here))
        return (words, behind)


def are_alike(instruction, other):
    """Tell whether instructions of a program and of a kept one are the same; where a zero leads is not asked."""
    if instruction[0] == "zero":
        return other[0] == "zero"
    return instruction == other


def fault(yard, standing, program, kept):
    """Return None if the kept program carries the program, otherwise what goes wrong and the way there."""
    check_yard(yard)
    check_standing(yard, standing)
    check_program(program, count_books(standing))
    check_kept(kept, count_books(standing), yard[0])
    return first_fault(Walk(yard, program, kept), standing)


def first_fault(walk, standing):
    """Return what fault does for a walk that begins at a standing.

    All ways of a length are walked in ascending order, those that are alike together: a place of both programs and
    a standing to which a lesser way came before leads to nothing less.
    """
    trail = [(None, walk.landing[0])]
    met = {}
    row = [(0, [(walk.kept_landing[0], standing)])]
    while row:
        later = []
        for mark, states in row:
            words, behind = walk.go_all_on(trail[mark][1], states)
            if words:
                return (min(words), way_of(trail, mark))
            for at in sorted(behind):
                fresh = not_met(met, at, behind[at])
                if fresh:
                    trail.append((mark, at))
                    later.append((len(trail) - 1, fresh))
        row = later
    return None


def not_met(met, at, states):
    """Return the list of the states that were not met with the program at a place, and mark them as met."""
    fresh = []
    for spot, standing in states:
        if (at, spot, standing) not in met:
            met[(at, spot, standing)] = True
            fresh.append((spot, standing))
    return fresh


def way_of(trail, mark):
    """Return the tuple of instructions that a mark of a trail ends."""
    way = []
    while mark is not None:
        mark, at = trail[mark]
        way.append(at)
    return tuple(way[::-1])


def carries(yard, standing, program, kept):
    """Tell whether a kept program carries a program from a standing."""
    return fault(yard, standing, program, kept) is None
