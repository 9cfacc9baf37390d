"""The greatest worst share of the kept programs that carry a program, and one that has it."""

from holestore.checks import check_standing, check_yard, count_books
from holestore.games import best_choices, chosen_moves
from holestore.layout import written_out
from holestore.moments import Moments
from holestore.programs import check_program
from holestore.writing import kept


def moments_of(yard, standing, program):
    """Return the moments of a program from a standing, for any values."""
    check_yard(yard)
    check_standing(yard, standing)
    check_program(program, count_books(standing))
    return Moments(yard, standing, program)


def share(yard, standing, program):
    """Return the greatest worst share of all kept programs that carry, None if no course goes on for ever."""
    moments = moments_of(yard, standing, program)
    if not moments.is_endless:
        return None
    ratio, _, _ = best_choices(moments)
    return ratio


def kept_best(yard, standing, program):
    """Return a kept program that carries and has the greatest worst share."""
    moments = moments_of(yard, standing, program)
    if not moments.is_endless:
        return kept(yard, standing, program)
    _, choices, _ = best_choices(moments)
    moves = chosen_moves(moments, choices)
    return written_out(program, standing, {moments.spots[mark]: moves[mark][0] for mark in moves})
