"""Foldings: what the families of a road are, by a right row of moves."""

from farmates.errors import BadMoves, NoFamily
from farmates.folders import fold_down
from farmates.fronts import Front, fault_of, wide_front
from farmates.shares import led_by, settled
from farmates.stretches import need_place, need_stretch


def fold(length, matings):
    """A right row of moves."""
    return fold_down(Front(length, matings))


def families_of(length, matings):
    """How many families there are, also of a road beyond all bounds."""
    front = wide_front(length, matings)
    fold_down(front)
    return sum([event[2] - event[1] for event in front.led_on() if event[0] == "bare"])


def last_up_to(rising, number):
    """The index of the last one that is no greater than the number, which the first one isn't."""
    low = 0
    high = len(rising)
    while high - low > 1:
        middle = (low + high) // 2
        if rising[middle] <= number:
            low = middle
        else:
            high = middle
    return low


def joined(pieces):
    """The pieces with those made one that lie side by side and weigh the same."""
    told = []
    for begin, end, weight in pieces:
        if told and told[-1][1] == begin and told[-1][2] == weight:
            begin = told.pop()[0]
        told.append((begin, end, weight))
    return told


def first_ranks(pieces):
    """The rank of the first least place of each piece."""
    ranks = []
    rank = 0
    for begin, end, weight in pieces:
        ranks.append(rank)
        rank += end - begin
    return ranks


class Folding:
    """A road folded to its end by a right row of moves."""

    def __init__(self, length, matings, *, moves=None):
        front = Front(length, matings)
        if moves is None:
            self.row = fold_down(front)
        else:
            at = fault_of(front, moves)
            if at is not None:
                raise BadMoves(at)
            self.row = list(moves)
        self.extent = length
        # By rising places, so that the one that a place meets can be searched for; likewise the moves that made them.
        self.events = front.led_on()[::-1]
        self.makers = [at for at, move in enumerate(self.row) if move[0] in ("fold", "bare")][::-1]
        self.begins = [event[1] for event in self.events]
        self.pieces = joined(settled(self.events, 0, length))
        self.firsts = [piece[0] for piece in self.pieces]
        self.ranks = first_ranks(self.pieces)

    def moves(self):
        """The row of moves."""
        return list(self.row)

    def count(self):
        """How many families there are."""
        return sum([end - begin for begin, end, size in self.pieces])

    def least(self, place):
        """The least place of the family of a place."""
        trail = self.trail(place)
        return trail[-1][1] if trail else place

    def trail(self, place):
        """The list of pairs (number of a move, place to which it leads the place on)."""
        need_place(self.extent, place)
        told = []
        at = last_up_to(self.begins, place)
        while self.events[at][0] == "fold":
            place = led_by(self.events[at], place)
            told.append((self.makers[at], place))
            at = last_up_to(self.begins, place)
        return told

    def size(self, place):
        """How many places the family of a place has."""
        return self.pieces[last_up_to(self.firsts, self.least(place))][2]

    def rank(self, place):
        """The rank of the family of a place."""
        least = self.least(place)
        at = last_up_to(self.firsts, least)
        return self.ranks[at] + least - self.firsts[at]

    def family(self, number):
        """The least place of the family of this rank."""
        if isinstance(number, bool) or number < 0 or number >= self.count():
            raise NoFamily(number)
        at = last_up_to(self.ranks, number)
        return self.firsts[at] + number - self.ranks[at]

    def spans(self):
        """The rising list of (from, to, size): least places of families of one size, as long as can be."""
        return list(self.pieces)

    def sizes(self):
        """The rising list of pairs (size, how many families have it)."""
        many = {}
        for begin, end, size in self.pieces:
            many[size] = many.get(size, 0) + end - begin
        return [(size, many[size]) for size in sorted(many)]

    def meeting(self, at, many):
        """How many families have a place in the stretch."""
        need_stretch(self.extent, at, many)
        return sum([end - begin for begin, end, share in settled(self.events, at, at + many)])

    def inside(self, place, at, many):
        """How many places of the family of a place lie in the stretch."""
        least = self.least(place)
        need_stretch(self.extent, at, many)
        for begin, end, share in settled(self.events, at, at + many):
            if begin <= least and least < end:
                return share
        return 0
