"""Papers that show the greatest worst share of a program from both sides: by heights and by depths."""

from math import gcd

from holestore.checks import is_from, is_number, is_tuple_of
from holestore.games import best_choices, heights_by, worth
from holestore.shares import moments_of

LARGEST_TOLD = 1000000


def share_paper(yard, standing, program):
    """Return (ratio, heights, depths) that show the share of a program, None if no course goes on for ever."""
    moments = moments_of(yard, standing, program)
    if not moments.is_endless:
        return None
    ratio, choices, numbers = best_choices(moments)
    heights = heights_by(moments, choices, ratio)
    depths = {mark: number for mark, number in enumerate(numbers) if number is not None}
    return (ratio, told(moments, heights), told(moments, depths))


def told(moments, numbers):
    """Return the tuple of triples that tells the numbers of moments, in the order that a paper has."""
    rows = sorted([(order_of(moments.spots[mark]), mark) for mark in numbers])
    return tuple([moments.spots[mark] + (numbers[mark],) for _, mark in rows])


def order_of(spot):
    """Return what moments are sorted by: an empty place is less than all books."""
    at, here = spot
    return (at, tuple([-1 if item is None else item for item in here]))


def shows_share(yard, standing, program, value):
    """Tell whether a value is a paper that share_paper may return."""
    moments = moments_of(yard, standing, program)
    if not moments.is_endless or not is_tuple_of(value, 3):
        return False
    ratio, height_rows, depth_rows = value
    if not is_ratio(ratio) or not are_rows(moments, height_rows) or not are_rows(moments, depth_rows):
        return False
    heights = numbers_of(moments, height_rows)
    depths = numbers_of(moments, depth_rows)
    return are_heights(moments, ratio, heights) and are_depths(moments, ratio, depths)


def is_ratio(value):
    """Tell whether a value is a ratio from just above 0 to 1, in lowest terms."""
    if not is_tuple_of(value, 2):
        return False
    top, low = value
    return is_from(low, 1, LARGEST_TOLD) and is_from(top, 1, low) and gcd(top, low) == 1


def are_rows(moments, value):
    """Tell whether a value is a tuple that tells numbers of moments, the beginning's too, in their order."""
    if not isinstance(value, tuple) or not all([is_row(moments, row) for row in value]):
        return False
    places = [order_of(row[:2]) for row in value]
    if any([former >= latter for former, latter in zip(places, places[1:])]):
        return False
    return order_of(moments.spots[0]) in places


def is_row(moments, value):
    """Tell whether a value is a triple that tells a number of a moment."""
    if not is_tuple_of(value, 3):
        return False
    at, here, number = value
    # To Python, truths are like 0 and 1, and what holds a list cannot be looked up.
    if not is_number(at) or not isinstance(here, tuple):
        return False
    if not all([item is None or is_number(item) for item in here]):
        return False
    return (at, here) in moments.number and is_from(number, 0, LARGEST_TOLD)


def numbers_of(moments, rows):
    """Return a dict from the moments that rows tell to their numbers."""
    return {moments.number[(at, here)]: number for at, here, number in rows}


def are_heights(moments, ratio, heights):
    """Tell whether some move of each moment told bears out its height."""
    for mark, height in heights.items():
        if not any([bears_height(heights, height + worth(move, ratio), move) for move in moments.moves[mark]]):
            return False
    return True


def bears_height(heights, most, move):
    """Tell whether all moments to which a move may lead have heights of at most so much.

    Moves leave the end out: its height of 0 is borne out always, since an instruction is worth no less than 0.
    """
    return all([ahead in heights and heights[ahead] <= most for ahead in move[1]])


def are_depths(moments, ratio, depths):
    """Tell whether all moves of each moment told bear out its depth."""
    for mark, depth in depths.items():
        if not all([bears_depth(depths, depth - worth(move, ratio), move) for move in moments.moves[mark]]):
            return False
    return True


def bears_depth(depths, most, move):
    """Tell whether some moment to which a move may lead has a depth of at most so much."""
    return any([ahead in depths and depths[ahead] <= most for ahead in move[1]])
