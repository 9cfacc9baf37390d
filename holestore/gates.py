"""Other gates and other ties: those that make a yard free, or let a program be carried."""

from itertools import combinations

from holestore.checks import are_ties, check_standing, check_yard, count_books
from holestore.errors import NoWay
from holestore.programs import check_program, goes_on_for_ever
from holestore.rooms import is_free
from holestore.shares import share
from holestore.writing import can_be_kept, ways_to_instructions


def with_gate(yard, gate):
    """Return the yard with another place for its gate."""
    return (yard[0], yard[1], gate)


def with_ties(yard, ties):
    """Return the yard with other ties."""
    return (yard[0], ties, yard[2])


def free_gates(yard):
    """Return the ascending tuple of the places that, taken for the gate, make the yard free."""
    check_yard(yard)
    return tuple([gate for gate in range(yard[0]) if is_free(with_gate(yard, gate))])


def gates_for(yard, standing, program):
    """Return the ascending tuple of the places that, taken for the gate, let a program be carried."""
    check_yard(yard)
    check_standing(yard, standing)
    check_program(program, count_books(standing))
    return tuple([gate for gate in range(yard[0]) if can_be_kept(with_gate(yard, gate), standing, program)])


def best_gate(yard, standing, program):
    """Return (gate, share) for the first gate with the greatest share; the share is None if all courses end."""
    gates = gates_for(yard, standing, program)
    if not gates:
        raise NoWay("no place, taken for the gate, lets the program be carried")
    # With such a gate the program can stand at all instructions to which its jumps lead.
    if not goes_on_for_ever(program, list(ways_to_instructions(program, []))):
        return (gates[0], None)
    best = None
    for gate in gates:
        ratio = share(with_gate(yard, gate), standing, program)
        if best is None or ratio[0] * best[1][1] > best[1][0] * ratio[1]:
            best = (gate, ratio)
    return best


def freeing(yard):
    """Return the ascending tuple of the pairs of untied places such that with this tie, too, the yard is free."""
    check_yard(yard)
    ties = yard[1]
    pairs = [pair for pair in combinations(range(yard[0]), 2) if pair not in ties]
    return tuple([pair for pair in pairs if is_free(with_ties(yard, tuple(sorted(ties + (pair,)))))])


def needed_ties(yard):
    """Return the ascending tuple of the ties without which the places do not hang together, or a free yard is not."""
    check_yard(yard)
    return tuple([tie for tie in yard[1] if is_needed(yard, tie)])


def is_needed(yard, tie):
    """Tell whether a tie is one of needed_ties."""
    rest = tuple([each for each in yard[1] if each != tie])
    if not are_ties(rest, yard[0]):
        return True
    return is_free(yard) and not is_free(with_ties(yard, rest))
