"""Whether a program can be written out for a yard, and the kept program that carries it."""

from holestore.checks import check_standing, check_yard, count_books
from holestore.errors import NoWay
from holestore.layout import written_out
from holestore.programs import book_of, check_program, instructions_behind, landings
from holestore.rooms import lost_books
from holestore.runs import is_stuck
from holestore.yards import first_steps, moved, way_back


def barred(yard, standing, program):
    """Return None if some kept program carries, otherwise the least way to a book that never comes to the gate."""
    check_yard(yard)
    check_standing(yard, standing)
    check_program(program, count_books(standing))
    return barred_way(yard, standing, program)


def barred_way(yard, standing, program):
    """Return what barred does, for arguments that are as they must be."""
    lost = lost_books(yard, standing)
    ways = ways_to_instructions(program, lost)
    for at in ways:
        if book_of(program[at]) in lost:
            return ways[at]
    return None


def ways_to_instructions(program, lost):
    """Return a dict from the instructions at which a program can stand to the least of the shortest ways there.

    The ways lead over no instruction that names one of the lost books. Lesser ones of a length come first.
    """
    landing = landings(program)
    ways = {at: (at,) for at in landing[:1] if at != -1}
    row = list(ways)
    while row:
        later = []
        for at in row:
            if book_of(program[at]) in lost:
                continue
            for behind in instructions_behind(program, landing, at):
                if behind not in ways:
                    ways[behind] = ways[at] + (behind,)
                    later.append(behind)
        row = later
    return ways


def can_be_kept(yard, standing, program):
    """Tell whether some kept program carries a program from a standing."""
    return barred(yard, standing, program) is None


def kept(yard, standing, program):
    """Return a kept program that carries a program from a standing."""
    if barred(yard, standing, program) is not None:
        raise NoWay("a book that the program names never comes to the gate")
    return written_out(program, standing, moves_to_aims(yard, standing, program))


def moves_to_aims(yard, standing, program):
    """Return moves, as written_out takes them, by which each instruction is always done at the same standing.

    So no more than two ways lead from each instruction, and 20 instructions come to fewer than 6000 rows: a way from
    one standing to another is less than 130 slides long.
    """
    landing = landings(program)
    aims = {}
    steps = {}
    moves = {}
    todo = [(landing[0], standing)]
    while todo:
        at, here = todo.pop()
        if at == -1:
            continue
        if here not in steps:
            steps[here] = first_steps(yard[1], here)
        if at not in aims:
            aims[at] = first_to_do(yard, steps[here], program[at])
            todo.extend([(behind, aims[at]) for behind in instructions_behind(program, landing, at)])
        way = way_back(steps[here], aims[at])
        for slide in way:
            moves[(at, here)] = slide
            here = moved(here, slide)
        moves[(at, here)] = None
    return moves


def first_to_do(yard, steps, instruction):
    """Return the standing of some steps, the first met, at which an instruction is not stuck."""
    return [met for met in steps if not is_stuck(yard, met, instruction)][0]
