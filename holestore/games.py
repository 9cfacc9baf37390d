"""The greatest worst share of a program, as a game of the moves against the ways of the zeros.

A ratio (top, low) is tried by weights: a move is worth - top, and low more if it is the instruction. A course that
goes round and round does more than top of low instructions a tick exactly if its rounds are worth more than 0.
"""

from heapq import heappop, heappush
from math import gcd


def worth(move, ratio):
    """Return what a move is worth against a ratio."""
    top, low = ratio
    return -top if move[0] is not None else low - top


class Game:
    """Choices of moves at moments, and how much each is worth against a ratio.

    A choice is the number of a move, or None for a halt, worth 0. Depths has for each moment the least that the ways
    of the zeros come to, by the choices, before a halt; None if they never come to one.
    """

    def __init__(self, moments, ratio):
        self.moves = moments.moves
        self.ratio = ratio
        self.choices = [None for move in self.moves]
        self.depths = [0 for move in self.moves]

    def chosen(self, mark):
        """Return the move that is chosen at a moment."""
        return self.moves[mark][self.choices[mark]]

    def depth_by(self, move):
        """Return the depth that a move comes to, None if it never comes to a halt."""
        ahead = [self.depths[mark] for mark in move[1] if self.depths[mark] is not None]
        if not ahead:
            return None
        return min(ahead) + worth(move, self.ratio)

    def choose(self):
        """Choose the deepest moves wherever they are deeper than what is chosen, and tell whether there were any."""
        changed = False
        for mark, depth in enumerate(self.depths):
            if depth is not None and self.choose_at(mark, depth):
                changed = True
        return changed

    def choose_at(self, mark, depth):
        """Choose the deepest move at a moment if it is deeper than a depth, and tell whether it is."""
        changed = False
        for at, move in enumerate(self.moves[mark]):
            by_move = self.depth_by(move)
            if by_move is None:
                self.choices[mark] = at
                return True
            if by_move > depth:
                depth = by_move
                self.choices[mark] = at
                changed = True
        return changed

    def measure(self):
        """Measure the depths anew, which by what choose does are nowhere less than before.

        What a depth grows by is the length of a shortest way to a halt, over lengths that are not below 0.
        """
        before = self.backwards()
        queue = [(0, mark) for mark, choice in enumerate(self.choices) if choice is None]
        found = [None for depth in self.depths]
        while queue:
            more, mark = heappop(queue)
            if found[mark] is not None:
                continue
            found[mark] = self.depths[mark] + more
            for back in before.get(mark, []):
                if found[back] is None:
                    length = self.depths[mark] + worth(self.chosen(back), self.ratio) - self.depths[back]
                    heappush(queue, (more + length, back))
        self.depths = found

    def backwards(self):
        """Return a dict from moments that may come to a halt to those whose chosen moves may lead there."""
        before = {}
        for mark, choice in enumerate(self.choices):
            if choice is not None and self.depths[mark] is not None:
                for ahead in self.chosen(mark)[1]:
                    if self.depths[ahead] is not None:
                        before.setdefault(ahead, []).append(mark)
        return before

    def solve(self):
        """Choose until no move is deeper: then a moment has a depth exactly if no choices do better than the ratio."""
        while self.choose():
            self.measure()


def best_choices(moments):
    """Return (ratio, choices, depths): the greatest worst share of the moments, some course going on for ever.

    The choices have it; the depths are those of the game against it: they show that no choices do better.
    """
    ratio = (0, 1)
    choices = []
    game = Game(moments, ratio)
    game.solve()
    while game.depths[0] is None:
        choices = game.choices
        ratio = worst_ratio(moments, choices)
        game = Game(moments, ratio)
        game.solve()
    return (ratio, choices, game.depths)


def worst_ratio(moments, choices):
    """Return the least ratio of instructions by ticks of the rounds to which choices may lead from the beginning.

    It is the least mean of a round by Karp's rule: over the moments where a course of as many ticks as there are
    moments can be, the least of the greatest means by which it does more than the shorter courses there.
    """
    moves = chosen_moves(moments, choices)
    rows = fewest_instructions(moves, len(moves))
    best = None
    for mark in rows[-1]:
        worst = greatest_mean(rows, mark)
        if best is None or worst[0] * best[1] < best[0] * worst[1]:
            best = worst
    top, low = best
    return (top // gcd(top, low), low // gcd(top, low))


def chosen_moves(moments, choices):
    """Return a dict from the moments to which choices lead from the beginning to the moves that are chosen there."""
    found = {}
    todo = [0]
    while todo:
        mark = todo.pop()
        if mark not in found:
            found[mark] = moments.moves[mark][choices[mark]]
            todo.extend(found[mark][1])
    return found


def heights_by(moments, choices, ratio):
    """Return a dict from the moments to which choices lead to heights by which they do no less than a ratio.

    A height is the most that a course from there ever lacks; no round lacks anything, so that the heights have an end.
    """
    moves = chosen_moves(moments, choices)
    heights = {mark: 0 for mark in moves}
    changed = True
    while changed:
        changed = False
        for mark, move in moves.items():
            lacked = max([heights[ahead] for ahead in move[1]], default=0) - worth(move, ratio)
            if lacked > heights[mark]:
                heights[mark] = lacked
                changed = True
    return heights


def fewest_instructions(moves, ticks):
    """Return a list that has, for each number of ticks up to so many, a dict from moments to fewest instructions.

    These are the fewest that a course from the beginning to there, of so many ticks, does.
    """
    rows = [{0: 0}]
    for _ in range(ticks):
        row = {}
        for mark, done in rows[-1].items():
            slide, behind = moves[mark]
            more = done + 1 if slide is None else done
            for ahead in behind:
                if ahead not in row or more < row[ahead]:
                    row[ahead] = more
        rows.append(row)
    return rows


def greatest_mean(rows, mark):
    """Return the greatest ratio of what the last row has more than one of the others at a moment, by the ticks."""
    last = rows[-1][mark]
    best = None
    for ticks, row in enumerate(rows[:-1]):
        if mark in row:
            top, low = last - row[mark], len(rows) - 1 - ticks
            if best is None or top * best[1] > best[0] * low:
                best = (top, low)
    return best
