"""The web of a yard: the places that part it, its sides, its pieces and their kinds."""

from holestore.checks import check_place, check_yard, hanging, neighbours
from holestore.errors import BadPlace


def parting(yard):
    """Return the ascending tuple of the places without which the others do not hang together."""
    check_yard(yard)
    places, ties, _ = yard
    near = neighbours(ties)
    return tuple([place for place in range(places) if parts(near, place)])


def parts(near, place):
    """Tell whether the other places do not hang together without a place."""
    return len(hanging(near, near[place][0], place)) < len(near) - 1


def two_sided(yard):
    """Tell whether the places are of two sides such that ties lead from one to the other alone."""
    check_yard(yard)
    return are_two_sided(yard[1])


def are_two_sided(ties):
    """Tell the same of the places at some ties by which these hang together."""
    near = neighbours(ties)
    start = ties[0][0]
    side = {start: 0}
    todo = [start]
    while todo:
        here = todo.pop()
        for place in near[here]:
            if place not in side:
                side[place] = 1 - side[here]
                todo.append(place)
    return all([side[one] != side[other] for one, other in ties])


def pieces(yard):
    """Return the ascending tuple of the pieces, each the ascending tuple of the places at its ties."""
    check_yard(yard)
    return tuple(sorted([tuple(sorted(neighbours(ties))) for ties in ties_of_pieces(yard[1])]))


def ties_of_pieces(ties):
    """Return a list that has, for each piece, the ascending list of its ties."""
    near = neighbours(ties)
    met = {}
    found = []
    for tie in ties:
        if tie not in met:
            piece = piece_at(near, tie)
            found.append(piece)
            met.update({member: True for member in piece})
    return found


def piece_at(near, tie):
    """Return the ascending list of the ties that are of one piece with a tie."""
    met = {tie: True}
    todo = [tie]
    while todo:
        here = todo.pop()
        for beside in ties_beside(near, here):
            if beside not in met:
                met[beside] = True
                todo.append(beside)
    return sorted(met)


def ties_beside(near, tie):
    """Return the list of the ties that meet a tie at a place without which their other ends hang together."""
    one, other = tie
    found = []
    for place, end in ((one, other), (other, one)):
        together = hanging(near, end, place)
        found.extend([tie_between(place, far) for far in near[place] if far in together])
    return found


def tie_between(place, other):
    """Return the tie of two tied places."""
    return (min(place, other), max(place, other))


def kind(yard, place, other):
    """Return the word for the kind of the piece of a tie: tie, ring, seven, sides or free."""
    check_yard(yard)
    check_place(yard, place)
    check_place(yard, other)
    near = neighbours(yard[1])
    if other not in near[place]:
        raise BadPlace("the places are not tied")
    return kind_of_piece(piece_at(near, tie_between(place, other)))


def kind_of_piece(ties):
    """Return the word for the kind of the piece that has these ties."""
    many = len(neighbours(ties))
    if many == 2:
        return "tie"
    # No place parts a piece, so with as many ties as places it is one ring.
    if len(ties) == many:
        return "ring"
    if is_seven(ties, many):
        return "seven"
    if are_two_sided(ties):
        return "sides"
    return "free"


def is_seven(ties, many):
    """Tell whether a piece is six places in a ring and a seventh tied to two opposite ones."""
    return many == 7 and any([is_seventh(ties, place) for place in range(7)])


def is_seventh(ties, place):
    """Tell whether a place of a piece of seven is tied to two places opposite in a ring of the other six."""
    ends = neighbours(ties)[place]
    if len(ends) != 2:
        return False
    # No place parts a piece, so the six hang together: two ties at each make them one ring.
    ring = neighbours([tie for tie in ties if place not in tie])
    if any([len(ring[member]) != 2 for member in ring]):
        return False
    one, other = ends
    return other not in ring[one] and not any([member in ring[other] for member in ring[one]])
