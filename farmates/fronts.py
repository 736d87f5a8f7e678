"""Fronts: roads that are folded from their far end by moves, and a judge of rows of moves."""

from farmates.errors import BadMove, Full
from farmates.stretches import MOST, back, clipped, common, holds, need_length, need_mating, normal, part


def need_road(length, matings):
    """Refuse a wrong length, then the first that is no mating of the road, then too many of them."""
    need_length(length)
    for mating in matings:
        need_mating(length, mating)
    if len(matings) > MOST:
        raise Full(MOST)


# The functions from here to Front are asked only of matings with their lesser stretch first.


def step_of(mating):
    """How far the other stretch begins behind the one stretch."""
    return mating[1] - mating[0]


def end_of(mating):
    """One more than the last place of both stretches."""
    return mating[1] + mating[2]


def is_leader(mating):
    """Whether it may lead and fold: it is neither idle nor to be halved."""
    if mating[3] == 1:
        return step_of(mating) >= mating[2]
    return step_of(mating) >= 1


def is_repeat(mating):
    """Whether it is straight and ties all places from its first to its last one by its step."""
    return mating[3] == 0 and 1 <= step_of(mating) <= mating[2]


def halved(mating):
    """The half of a mating that is turned upon itself, or None where only a middle place is left."""
    one, other, many, turned = mating
    half = (other + many - one) // 2
    if half == 0:
        return None
    return (one, other + many - half, half, turned)


def merged(first, second):
    """The one mating that ties what both tie, or None where they may not be merged."""
    if not is_repeat(first) or not is_repeat(second):
        return None
    shared = min(end_of(first), end_of(second)) - max(first[0], second[0])
    if shared < step_of(first) + step_of(second):
        return None
    begin = min(first[0], second[0])
    end = max(end_of(first), end_of(second))
    step = common(step_of(first), step_of(second))
    return (begin, begin + step, end - begin - step, 0)


def led_back(leader, at, many):
    """Where a stretch of the leader's other one comes to begin when it is led back as often as can be."""
    if leader[3] == 1:
        return part(back(leader), at, many)[1]
    return leader[0] + (at - leader[0]) % step_of(leader)


class Front:
    """A road that is being folded: its top, the matings that stand, and what became of the places above."""

    def __init__(self, length, matings):
        need_road(length, matings)
        self.edge = length
        self.standing = {i: normal(mating) for i, mating in enumerate(matings)}
        self.past = []

    def top(self):
        """The number of places that are not folded yet."""
        return self.edge

    def left(self):
        """The rising list of pairs (i, mating) that stand."""
        return [(i, self.standing[i]) for i in sorted(self.standing)]

    def led_on(self):
        """The list, in order, of what was made with the places above the top."""
        return list(self.past)

    def twin(self):
        """A front of its own that stands as this one does."""
        other = wide_front(self.edge, [])
        other.standing = dict(self.standing)
        other.past = list(self.past)
        return other

    def make(self, move):
        """Make the move, or refuse it and leave all as it is."""
        # True would be found among the matings as 1 is.
        if any([isinstance(number, bool) for number in move]) or not self.made(move):
            raise BadMove(move)

    def made(self, move):
        """Make the move where it may be made; whether it was."""
        name = move[0]
        if name == "idle":
            return self.idle(move[1])
        if name == "halve":
            return self.halve(move[1])
        if name == "merge":
            return self.merge(move[1], move[2])
        if name == "lead":
            return self.lead(move[1], move[2], move[3])
        if name == "fold":
            return self.fold(move[1], move[2])
        return name == "bare" and self.bare(move[1])

    def idle(self, i):
        """Let go a mating that lays a stretch straight upon itself."""
        mating = self.standing.get(i)
        if mating is None or mating[3] == 1 or step_of(mating) != 0:
            return False
        self.put(i, None)
        return True

    def halve(self, i):
        """Halve a turned mating whose stretches have a place in common."""
        mating = self.standing.get(i)
        if mating is None or mating[3] == 0 or is_leader(mating):
            return False
        self.put(i, halved(mating))
        return True

    def merge(self, i, j):
        """Make i the one mating that ties what i and j tie."""
        first = self.standing.get(i)
        second = self.standing.get(j)
        if i == j or first is None or second is None:
            return False
        mating = merged(first, second)
        if mating is None:
            return False
        self.put(i, mating)
        self.put(j, None)
        return True

    def lead(self, j, side, i):
        """Replace one stretch of j by where i leads it back."""
        mating = self.standing.get(j)
        leader = self.leader(i)
        if i == j or side not in (0, 1) or mating is None or leader is None:
            return False
        one, other, many, turned = mating
        at = other if side == 1 else one
        if not holds(back(leader), at, many):
            return False
        begin = led_back(leader, at, many)
        if side == 1:
            other = begin
        else:
            one = begin
        self.put(j, (one, other, many, turned ^ leader[3]))
        return True

    def fold(self, i, m):
        """Lead all places from m on back by i, whose other stretch ends at the top."""
        leader = self.leader(i)
        if leader is None or end_of(leader) != self.edge:
            return False
        if m < leader[1] or m >= self.edge or m < self.reach(i):
            return False
        step = 0 if leader[3] == 1 else step_of(leader)
        self.past.append(("fold", m, self.edge, leader[0], step, leader[3]))
        self.put(i, clipped(leader, m))
        self.edge = m
        return True

    def bare(self, m):
        """Take off all places from m on as ones that no mating has."""
        if m < self.reach(None) or m >= self.edge:
            return False
        self.past.append(("bare", m, self.edge))
        self.edge = m
        return True

    def leader(self, i):
        """The mating i where it stands and may lead and fold, else None."""
        mating = self.standing.get(i)
        if mating is None or not is_leader(mating):
            return None
        return mating

    def reach(self, but):
        """The least place from which on no mating has one, that of the number but left out."""
        return max([end_of(self.standing[i]) for i in self.standing if i != but], default=0)

    def put(self, i, mating):
        """Let the mating stand as i, lesser stretch first, or let i go where there is None."""
        if mating is None:
            del self.standing[i]
        else:
            self.standing[i] = normal(mating)


def wide_front(length, matings):
    """A front that is held to no bounds: what is asked about a road may want a longer one, or more matings."""
    front = Front(0, [])
    front.edge = length
    front.standing = {i: normal(mating) for i, mating in enumerate(matings)}
    return front


def fault_of(front, moves):
    """Make the moves upon the front: None for a right row, else the number of the move at which it fails."""
    for at, move in enumerate(moves):
        try:
            front.make(move)
        except BadMove:
            return at
    return None if front.top() == 0 else len(moves)


def judge(length, matings, moves):
    """None for a right row of moves, else the number of the move at which it fails."""
    return fault_of(Front(length, matings), moves)
