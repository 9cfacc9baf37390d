"""Standings of a yard and the slides that lead from one to another."""

from holestore.checks import check_standing, check_yard, is_number, is_tuple_of
from holestore.errors import BadSlide, NoWay


def slides(yard, standing):
    """Return the ascending tuple of the slides that can be done."""
    check_yard(yard)
    check_standing(yard, standing)
    return tuple(slides_at(yard[1], standing))


def slides_at(ties, standing):
    """Return the ascending list of the slides that can be done at a standing."""
    found = []
    for one, other in ties:
        if standing[one] is not None and standing[other] is None:
            found.append((one, other))
        if standing[one] is None and standing[other] is not None:
            found.append((other, one))
    return sorted(found)


def can_slide(ties, standing, slide):
    """Tell whether a pair of places is a slide that can be done at a standing."""
    one, other = slide
    if standing[one] is None or standing[other] is not None:
        return False
    return (min(one, other), max(one, other)) in ties


def behind_slide(yard, standing, slide):
    """Return the standing behind a slide."""
    check_yard(yard)
    check_standing(yard, standing)
    if not is_slide_at(yard[1], standing, slide):
        raise BadSlide("no slide that can be done")
    return moved(standing, slide)


def is_slide_at(ties, standing, value):
    """Tell whether a value is a slide that can be done at a standing."""
    if not is_tuple_of(value, 2):
        return False
    # (True, 2) is like (1, 2) to Python, and yet no slide.
    one, other = value
    return is_number(one) and is_number(other) and value in slides_at(ties, standing)


def moved(standing, slide):
    """Return the standing behind a slide that can be done."""
    one, other = slide
    row = list(standing)
    row[other] = row[one]
    row[one] = None
    return tuple(row)


def slides_to(yard, standing, other):
    """Return the least of the shortest tuples of slides that lead to another standing."""
    check_yard(yard)
    check_standing(yard, standing)
    check_standing(yard, other)
    steps = first_steps(yard[1], standing)
    if other not in steps:
        raise NoWay("no slides lead to the other standing")
    return way_back(steps, other)


def first_steps(ties, standing):
    """Return a dict from each standing that can come to (the one ahead of it, the slide); the first one has None.

    These are the steps of the least of the shortest tuples of slides: standings are met in the order of these
    tuples, as slides are tried in ascending order from standings in the order in which they were met.
    """
    steps = {standing: None}
    row = [standing]
    while row:
        row = next_row(ties, steps, row)
    return steps


def next_row(ties, steps, row):
    """Return the list of the standings that are first met one slide behind those of a row, and put them into steps."""
    later = []
    for here in row:
        for slide in slides_at(ties, here):
            behind = moved(here, slide)
            if behind not in steps:
                steps[behind] = (here, slide)
                later.append(behind)
    return later


def way_back(steps, standing):
    """Return the tuple of slides by which first_steps came to a standing."""
    way = []
    step = steps[standing]
    while step is not None:
        ahead, slide = step
        way.append(slide)
        step = steps[ahead]
    return tuple(way[::-1])


def count_standings(yard, standing):
    """Return how many standings can come, the standing itself among them."""
    check_yard(yard)
    check_standing(yard, standing)
    return len(first_steps(yard[1], standing))
