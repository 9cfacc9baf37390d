"""Slow plain readings of the document about programs, for the tests."""

from math import gcd

from tests.samples import slow_behind, slow_slides

MILLION = 1000000
ENDLESS = float("inf")
WITH_BOOKS = ("get", "plus", "minus", "set")


def settle(program, at):
    """Return the instruction at which a program stands at a place, gos passed over, or -1 for an end."""
    passed = []
    while at < len(program) and program[at][0] == "go":
        if at in passed:
            return -1
        passed.append(at)
        at = program[at][1]
    return -1 if at == len(program) or program[at][0] == "stop" else at


def is_stuck(yard, standing, instruction):
    if instruction[0] == "slide":
        return instruction[1:] not in slow_slides(yard, standing)
    return instruction[0] in WITH_BOOKS and standing[yard[2]] != instruction[1]


def run(program, inputs, most, yard=None, standing=None):
    """Run a program, in a yard if there is one."""
    hand, held, said, ticks = 0, {}, [], 0
    coming = list(inputs)
    at = settle(program, 0)
    while at != -1:
        if ticks == most:
            return (tuple(said), "running", ticks)
        instruction = program[at]
        word, rest = instruction[0], instruction[1:]
        if yard is not None and is_stuck(yard, standing, instruction):
            return (tuple(said), "stuck", ticks)
        jump = at + 1
        if word == "get":
            hand = held.get(rest[0], 0)
        elif word == "plus":
            hand += held.get(rest[0], 0)
        elif word == "minus":
            hand -= held.get(rest[0], 0)
        elif word == "set":
            held[rest[0]] = hand
        elif word == "put":
            hand = rest[0]
        elif word == "say":
            said.append(hand)
        elif word == "ask":
            hand = coming.pop(0) if coming else 0
        elif word == "zero":
            jump = rest[0] if hand == 0 else jump
        elif word == "slide":
            standing = slow_behind(standing, rest)
        ticks += 1
        at = settle(program, jump)
    return (tuple(said), "stopped", ticks)


def pair_step(yard, program, kept, state):
    """Return the words for what goes wrong at a state (at, spot, standing), and the states that come next."""
    at, spot, standing = state
    met = []
    while spot != -1 and kept[spot][0] == "slide":
        if (spot, standing) in met or is_stuck(yard, standing, kept[spot]):
            return (["stuck"], [])
        met.append((spot, standing))
        standing = slow_behind(standing, kept[spot][1:])
        spot = settle(kept, spot + 1)
    words = []
    if spot != -1 and is_stuck(yard, standing, kept[spot]):
        words.append("stuck")
    if (at == -1) != (spot == -1):
        words.append("unlike")
    elif at != -1:
        one, other = program[at], kept[spot]
        if one[0] != other[0] or (one[0] != "zero" and one[1:] != other[1:]):
            words.append("unlike")
    if words or at == -1:
        return (words, [])
    behind = [(settle(program, at + 1), settle(kept, spot + 1), standing)]
    if program[at][0] == "zero":
        behind.append((settle(program, program[at][1]), settle(kept, kept[spot][1]), standing))
    return ([], behind)


def fault_within(yard, standing, program, kept, most):
    """Return the fault by going through all ways, the shortest first and of these the least; "far" for too many."""
    start = (settle(program, 0), settle(kept, 0), standing)
    ways = {(start[0],): {start}}
    for _ in range(most):
        later = {}
        for way in sorted(ways):
            words = []
            for state in ways[way]:
                wrong, behind = pair_step(yard, program, kept, state)
                words.extend(wrong)
                for each in behind:
                    later.setdefault(way + (each[0],), set()).add(each)
            if words:
                return (min(words), way)
        ways = later
        if len(ways) > 300:
            return "far"
    return "far" if ways else None


def carries(yard, standing, program, kept):
    """Tell whether nothing goes wrong at any state that comes."""
    start = (settle(program, 0), settle(kept, 0), standing)
    met = {start}
    todo = [start]
    while todo:
        words, behind = pair_step(yard, program, kept, todo.pop())
        if words:
            return False
        todo.extend([state for state in behind if state not in met])
        met.update(behind)
    return True


def next_instructions(program, at):
    """Return the set of the places, -1 for the end, at which a program may stand behind an instruction."""
    jumps = [at + 1] + ([program[at][1]] if program[at][0] == "zero" else [])
    return {settle(program, jump) for jump in jumps}


def moments(yard, standing, program):
    """Return the moments, each with its moves: (ticks' worth of an instruction: 0 or 1, what comes next)."""
    start = (settle(program, 0), standing)
    found = {}
    todo = [start] if start[0] != -1 else []
    while todo:
        here = todo.pop()
        if here in found:
            continue
        at, row = here
        moves = [(0, [(at, slow_behind(row, slide))]) for slide in slow_slides(yard, row)]
        if not is_stuck(yard, row, program[at]):
            moves.append((1, [(ahead, row) for ahead in next_instructions(program, at)]))
        found[here] = moves
        for _, behind in moves:
            todo.extend([each for each in behind if each[0] != -1])
    return found


def is_share(yard, standing, program, ratio):
    """Tell whether a ratio is the greatest worst share: heights and depths of point 14 show it from both sides."""
    start = (settle(program, 0), standing)
    heights, depths = all_heights_and_depths(yard, standing, program, ratio)
    return start in heights and start in depths


def all_heights_and_depths(yard, standing, program, ratio):
    """Return the least heights and depths of point 14, as dicts, of all moments that have them."""
    found = moments(yard, standing, program)
    top, low = ratio
    most = (len(found) + 1) * low
    heights = {here: 0 for here in found}
    depths = {here: 0 for here in found}
    raise_all(found, heights, most, lambda moves: min(
        [max([heights.get(each, 0) for each in behind]) + top - low * done for done, behind in moves]))
    raise_all(found, depths, most, lambda moves: max(
        [min([depths.get(each, ENDLESS) for each in behind]) - top + low * done for done, behind in moves]))
    return tuple([{here: number for here, number in numbers.items() if number < ENDLESS}
                  for numbers in (heights, depths)])


def paper_order(row):
    """Return what rows of a paper are sorted by."""
    return (row[0], [-1 if item is None else item for item in row[1]])


def told(numbers):
    """Return the rows of a paper that tell the numbers of moments."""
    return tuple(sorted([(at, here, number) for (at, here), number in numbers.items()], key=paper_order))


def is_paper(yard, standing, program, value):
    """Tell whether a value is a paper of point 14, its rows being triples of an instruction, a standing, a number."""
    found = moments(yard, standing, program)
    start = (settle(program, 0), standing)
    (top, low), heights, depths = value
    if not 0 < top <= low <= MILLION or gcd(top, low) != 1:
        return False
    for rows in (heights, depths):
        spots = [row[:2] for row in rows]
        if start not in spots or len(set(spots)) < len(spots) or not set(spots) <= set(found):
            return False
        if list(rows) != sorted(rows, key=paper_order) or not all(0 <= row[2] <= MILLION for row in rows):
            return False
    heights = {row[:2]: row[2] for row in heights}
    depths = {row[:2]: row[2] for row in depths}
    for here, height in heights.items():
        # The end is taken for a height of 0, and a moment that is not told for one that is too great.
        if not any(all((0 if each[0] == -1 else heights.get(each, 9 * MILLION)) <= height - top + low * done
                       for each in behind) for done, behind in found[here]):
            return False
    for here, depth in depths.items():
        if not all(any(each in depths and depths[each] <= depth + top - low * done for each in behind)
                   for done, behind in found[here]):
            return False
    return True


def raise_all(found, numbers, most, needed):
    """Raise numbers of moments to what they need till nothing changes; one above the most has no end."""
    changed = True
    while changed:
        changed = False
        for here in found:
            number = needed(found[here])
            if number > numbers[here]:
                numbers[here] = number if number <= most else ENDLESS
                changed = True


def worst_share(yard, standing, program, kept):
    """Return the worst share of a kept program that carries: rounds that do less are sought till there are none."""
    edges = {}
    start = (settle(kept, 0), standing)
    todo = [start]
    while todo:
        here = todo.pop()
        if here in edges or here[0] == -1:
            continue
        spot, row = here
        instruction = kept[spot]
        slides = instruction[0] == "slide"
        behind = slow_behind(row, instruction[1:]) if slides else row
        edges[here] = [(0 if slides else 1, (ahead, behind)) for ahead in next_instructions(kept, spot)]
        todo.extend([each for _, each in edges[here]])
    ratio = None
    better = round_below(edges, (2, 1))
    while better is not None:
        ratio = better
        better = round_below(edges, ratio)
    return ratio


def round_below(edges, ratio):
    """Return the ratio of some round with a lesser one than a ratio, None without one (Bellman and Ford)."""
    top, low = ratio
    worth = {here: 0 for here in edges}
    came = {}
    last = None
    for _ in range(len(edges) + 1):
        last = None
        for here in edges:
            for done, ahead in edges[here]:
                if ahead in worth and worth[here] + low * done - top < worth[ahead]:
                    worth[ahead] = worth[here] + low * done - top
                    came[ahead] = (here, done)
                    last = ahead
        if last is None:
            return None
    for _ in range(len(edges)):
        last = came[last][0]
    here, done = came[last]
    ticks = 1
    while here != last:
        ticks += 1
        here, more = came[here]
        done += more
    return (done, ticks)
