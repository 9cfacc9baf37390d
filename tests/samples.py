"""Yards, wrong values and slow plain readings of the document, for the tests."""

from itertools import combinations, permutations

NO_NUMBERS = [None, True, False, "1", "", (), (1,), [1], {1: 1}]

NO_TUPLES = [None, True, False, 0, 3, -1, "", "yard", [], [3, ((0, 1), (1, 2)), 0], {}, {0: 1}]

PATH = (3, ((0, 1), (1, 2)), 0)
TRIANGLE = (3, ((0, 1), (0, 2), (1, 2)), 0)
PAIR = (2, ((0, 1),), 0)
SQUARE = (4, ((0, 1), (0, 3), (1, 2), (2, 3)), 0)
KITE = (4, ((0, 1), (0, 2), (1, 2), (2, 3)), 0)
HOUSE = (4, ((0, 1), (0, 2), (0, 3), (1, 2), (2, 3)), 0)
STAR = (4, ((0, 1), (0, 2), (0, 3)), 1)
# Two triangles that share place 2.
BOW = (5, ((0, 1), (0, 2), (1, 2), (2, 3), (2, 4), (3, 4)), 2)
RING_OF_SEVEN = (7, tuple(sorted([(k, k + 1) for k in range(6)] + [(0, 6)])), 0)
RING_OF_SIX = [(0, 1), (0, 5), (1, 2), (2, 3), (3, 4), (4, 5)]
SEVEN = (7, tuple(sorted(RING_OF_SIX + [(0, 6), (3, 6)])), 0)
THREE_BY_FOUR = (7, tuple([(a, b) for a in range(3) for b in range(3, 7)]), 6)
ALL_TIED = (7, tuple(combinations(range(7), 2)), 3)

# Each with the word that BadYard names for it.
WRONG_YARDS = [(value, "yard") for value in NO_TUPLES] + [
    ((), "yard"),
    ((3,), "yard"),
    ((3, ((0, 1), (1, 2))), "yard"),
    ((3, ((0, 1), (1, 2)), 0, 0), "yard"),
    ((8, (), None), "places"),
    ((1, (), 0), "places"),
    ((0, (), 0), "places"),
    ((-2, ((0, 1),), 0), "places"),
    ((8, tuple((k, k + 1) for k in range(7)), 0), "places"),
    ((10 ** 30, ((0, 1),), 0), "places"),
    ((3, ((0, 1),), 0), "ties"),
    ((3, (), 0), "ties"),
    ((2, (), 0), "ties"),
    ((2, ((0, 1), (0, 1)), 0), "ties"),
    ((2, ((1, 0),), 0), "ties"),
    ((2, ((0, 0), (0, 1)), 0), "ties"),
    ((2, ((0, 1), (1, 1)), 0), "ties"),
    ((2, ((0, 2),), 0), "ties"),
    ((2, ((-1, 0), (0, 1)), 0), "ties"),
    ((2, ((0, 1, 1),), 0), "ties"),
    ((2, ((0,),), 0), "ties"),
    ((2, ((),), 0), "ties"),
    ((2, [(0, 1)], 0), "ties"),
    ((2, ([0, 1],), 0), "ties"),
    ((2, ({0: 1},), 0), "ties"),
    ((2, "01", 0), "ties"),
    ((2, ("01",), 0), "ties"),
    ((2, (0, 1), 0), "ties"),
    ((2, None, 0), "ties"),
    ((2, True, 0), "ties"),
    ((2, {(0, 1): True}, 0), "ties"),
    ((2, ((0, True),), 0), "ties"),
    ((2, ((False, 1),), 0), "ties"),
    ((2, ((0, "1"),), 0), "ties"),
    ((2, ((0, None),), 0), "ties"),
    ((3, ((1, 2), (0, 1)), 0), "ties"),
    ((3, ((0, 1), (1, 2), (0, 2)), 0), "ties"),
    ((4, ((0, 1), (2, 3)), 0), "ties"),
    ((4, ((1, 2), (1, 3), (2, 3)), 0), "ties"),
    ((4, ((0, 1), (0, 2), (1, 2)), 0), "ties"),
    ((7, ((0, 1), (0, 2), (1, 2), (3, 4), (4, 5), (5, 6)), 0), "ties"),
    ((3, ((0, 1),), 7), "ties"),
    ((True, None, None), "places"),
    ((2, None, None), "ties"),
    ((2, ((0, 1),), 2), "gate"),
    ((2, ((0, 1),), -1), "gate"),
] + [((value, ((0, 1),), 0), "places") for value in NO_NUMBERS] + [
    ((2, ((0, 1),), value), "gate") for value in NO_NUMBERS]

# Each is no standing of PATH.
WRONG_STANDINGS = NO_TUPLES + [
    (),
    (0, None),
    (0, None, None, None),
    (None, None, None),
    (0, 1, 2),
    (0, 2, None),
    (1, None, None),
    (1, 2, None),
    (0, 0, None),
    (0, -1, None),
    (-1, None, None),
    (False, None, None),
    (0, True, None),
    ("0", None, None),
    ("0", 0, None),
    ((), 0, None),
    ([], 0, None),
    ([0], 1, None),
    ({}, 0, None),
    (10 ** 30, 0, None),
    [0, 1, None],
    [0, None, None],
]


def hangs(members, ties):
    """Tell whether some places hang together by the ties among them: groups are merged until none can be."""
    groups = [{member} for member in members]
    for one, other in ties:
        if one in members and other in members:
            first = [group for group in groups if one in group][0]
            second = [group for group in groups if other in group][0]
            if first is not second:
                groups.remove(second)
                first |= second
    return len(groups) <= 1


def hang_without(place, one, other, places, ties):
    """Tell whether two places hang together without a place: no split of the others keeps them apart."""
    others = [member for member in range(places) if member != place]
    for many in range(len(others) + 1):
        for side in combinations(others, many):
            if one in side and other not in side:
                rest = [member for member in others if member not in side]
                if not [tie for tie in ties if crosses(tie, side, rest)]:
                    return False
    return True


def crosses(tie, side, rest):
    one, other = tie
    return (one in side and other in rest) or (one in rest and other in side)


def all_webs(places):
    """Return all tuples of ties by which so many places hang together."""
    pairs = list(combinations(range(places), 2))
    found = []
    for many in range(places - 1, len(pairs) + 1):
        for ties in combinations(pairs, many):
            if hangs(list(range(places)), ties):
                found.append(ties)
    return found


def all_standings_of(places, books):
    """Return all standings with so many books at so many places."""
    items = list(range(books)) + [None] * (places - books)
    return sorted(set(permutations(items)), key=str)


def relabelled(ties, order):
    """Return the ties with place k called order[k]."""
    return tuple(sorted([tuple(sorted((order[one], order[other]))) for one, other in ties]))


def slow_slides(yard, standing):
    places, ties, _ = yard
    return tuple([(one, other) for one in range(places) for other in range(places)
                  if standing[one] is not None and standing[other] is None
                  and ((one, other) in ties or (other, one) in ties)])


def slow_behind(standing, slide):
    one, other = slide
    return tuple([standing[one] if place == other else None if place == one else book
                  for place, book in enumerate(standing)])


def distances(yard, standing):
    """Return how few slides lead from a standing to each that can come, which is as many as lead back."""
    far = {standing: 0}
    waiting = [standing]
    for here in waiting:
        for slide in slow_slides(yard, here):
            behind = slow_behind(here, slide)
            if behind not in far:
                far[behind] = far[here] + 1
                waiting.append(behind)
    return far
