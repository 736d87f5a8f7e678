"""Right rows of moves for tests: by one plain way of folding, or by any moves that may be made."""

from farmates.errors import BadMove
from farmates.fronts import Front


def end_of(mating):
    return mating[1] + mating[2]


def may_make(front, move):
    try:
        front.twin().make(move)
    except BadMove:
        return False
    return True


def tidy_move(front):
    """A move that makes the matings fewer or shorter, or None."""
    left = front.left()
    for i, mating in left:
        for move in (("idle", i), ("halve", i)):
            if may_make(front, move):
                return move
    for i, first in left:
        for j, second in left:
            if may_make(front, ("merge", i, j)):
                return ("merge", i, j)
    return None


def next_move(front):
    """The next move of a row that comes to its end, also on far roads."""
    move = tidy_move(front)
    if move is not None:
        return move
    left = front.left()
    reach = max([end_of(mating) for i, mating in left], default=0)
    if reach < front.top():
        return ("bare", reach)
    i, leader = min([pair for pair in left if end_of(pair[1]) == reach], key=lambda pair: pair[1][1])
    for j, mating in left:
        for side in (1, 0):
            if may_make(front, ("lead", j, side, i)):
                return ("lead", j, side, i)
    return ("fold", i, max([leader[1]] + [end_of(mating) for j, mating in left if j != i]))


def finish(front, moves, most=3000):
    """The moves, and those that bring the front to its end behind them."""
    moves = list(moves)
    while front.top() > 0:
        moves.append(next_move(front))
        front.make(moves[-1])
        assert len(moves) <= most, "the row does not come to its end"
    return moves


def right_row(length, matings):
    return finish(Front(length, matings), [])


def all_moves(length, numbers):
    """All moves whose mating numbers are of the told ones, with places about the road's ends."""
    numbers = list(numbers)
    moves = [(name, i) for name in ("idle", "halve") for i in numbers]
    moves += [("merge", i, j) for i in numbers for j in numbers]
    moves += [("lead", j, side, i) for j in numbers for side in (-1, 0, 1, 2) for i in numbers]
    moves += [("fold", i, m) for i in numbers for m in range(-1, length + 2)]
    moves += [("bare", m) for m in range(-1, length + 2)]
    return moves


def wild_row(chance, length, matings):
    """A right row of moves that are chosen among all that may be made."""
    front = Front(length, matings)
    moves = []
    while front.top() > 0:
        numbers = [i for i, mating in front.left()]
        may = [move for move in all_moves(front.top(), numbers) if may_make(front, move)]
        # The kind first, so that the many folds do not crowd out the few merges.
        kind = chance.choice(sorted({move[0] for move in may}))
        moves.append(chance.choice([move for move in may if move[0] == kind]))
        front.make(moves[-1])
    return moves
