"""Papers: that two places are kin, or none, shown by a row of moves and both trails."""

from farmates.errors import BadMoves
from farmates.foldings import Folding
from farmates.fronts import need_road
from farmates.stretches import need_place


def kin_paper(length, matings, one, other):
    """The tuple (moves, trail of one, trail of other)."""
    folding = Folding(length, matings)
    return (folding.moves(), folding.trail(one), folding.trail(other))


def judge_kin(length, matings, one, other, paper):
    """True where the paper shows them as kin, False as none, None where it is no paper of them."""
    need_road(length, matings)
    need_place(length, one)
    need_place(length, other)
    moves, first, second = paper
    try:
        folding = Folding(length, matings, moves=moves)
    except BadMoves:
        return None
    if not is_trail(folding, one, first) or not is_trail(folding, other, second):
        return None
    return folding.least(one) == folding.least(other)


def is_trail(folding, place, trail):
    """Whether it is the very trail of the place."""
    # True would pass for 1 among the numbers.
    if any([isinstance(number, bool) for pair in trail for number in pair]):
        return False
    return list(trail) == folding.trail(place)
