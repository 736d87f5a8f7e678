"""Roads through deeds: their matings bear numbers, and they keep a folding until they are others."""

from farmates.errors import BadNumber, Full, NoMating
from farmates.foldings import Folding, families_of
from farmates.stretches import FAR, MOST, clipped, moved, need_from, need_length, need_mating, need_within, swelled


class Road:
    """A road that grows, is trimmed, swells, and gains and loses matings."""

    def __init__(self, length=0):
        need_length(length)
        self.extent = length
        self.standing = {}
        self.kept = None
        self.foldings = 0

    def become(self, length, standing):
        """Let length and matings be these; a folding goes only where they are others than ahead."""
        if length != self.extent or standing != self.standing:
            self.kept = None
        self.extent = length
        self.standing = standing

    def next_number(self):
        """The number that a new mating gets."""
        return max(list(self.standing), default=0) + 1

    def told(self):
        """The list of its matings, by rising numbers."""
        return [self.standing[number] for number in sorted(self.standing)]

    def mate(self, one, other, many, *, turned=0):
        """Lay a stretch upon another one; the number of the mating."""
        number = self.next_number()
        self.mate_as(number, (one, other, many, turned))
        return number

    def mate_as(self, number, mating):
        """Let a mating stand by this number, which none bears yet."""
        need_mating(self.extent, mating)
        if len(self.standing) >= MOST:
            raise Full(MOST)
        self.become(self.extent, {**self.standing, number: mating})

    def strike(self, number):
        """Let the mating of this number go."""
        # True would be found as 1 is.
        if isinstance(number, bool) or number not in self.standing:
            raise NoMating(number)
        self.become(self.extent, {k: self.standing[k] for k in self.standing if k != number})

    def grow(self, more):
        """Add so many places at the end."""
        need_within(0, FAR - self.extent, more)
        self.become(self.extent + more, self.standing)

    def trim(self, length):
        """Keep just so many places, and of the matings what stays."""
        need_within(0, self.extent, length)
        standing = {}
        for number in sorted(self.standing):
            mating = clipped(self.standing[number], length)
            if mating is not None:
                standing[number] = mating
        self.become(length, standing)

    def swell(self, times):
        """Let each place become so many side by side."""
        need_from(1, times)
        if self.extent * times > FAR:
            raise BadNumber(times)
        self.become(self.extent * times, {k: swelled(self.standing[k], times) for k in self.standing})

    def behind(self, other):
        """Take the other road behind this one, its matings behind its own."""
        length = self.extent + other.length()
        if length > FAR:
            raise BadNumber(length)
        if len(self.standing) + len(other.matings()) > MOST:
            raise Full(MOST)
        standing = dict(self.standing)
        for at, (number, mating) in enumerate(other.matings()):
            standing[self.next_number() + at] = moved(mating, self.extent)
        self.become(length, standing)

    def length(self):
        """How many places it has."""
        return self.extent

    def matings(self):
        """The rising list of pairs (number, mating)."""
        return [(number, self.standing[number]) for number in sorted(self.standing)]

    def known(self):
        """The folding that it keeps; where it keeps none, it is folded."""
        if self.kept is None:
            self.kept = Folding(self.extent, self.told())
            self.foldings += 1
        return self.kept

    def count(self):
        """How many families there are."""
        return self.known().count()

    def least(self, place):
        """The least place of the family of a place."""
        return self.known().least(place)

    def size(self, place):
        """How many places the family of a place has."""
        return self.known().size(place)

    def rank(self, place):
        """The rank of the family of a place."""
        return self.known().rank(place)

    def family(self, number):
        """The least place of the family of this rank."""
        return self.known().family(number)

    def spans(self):
        """The rising list of (from, to, size): least places of families of one size."""
        return self.known().spans()

    def sizes(self):
        """The rising list of pairs (size, how many families have it)."""
        return self.known().sizes()

    def meeting(self, at, many):
        """How many families have a place in the stretch."""
        return self.known().meeting(at, many)

    def inside(self, place, at, many):
        """How many places of the family of a place lie in the stretch."""
        return self.known().inside(place, at, many)

    def moves(self):
        """The right row of moves by which it is folded."""
        return self.known().moves()

    def trail(self, place):
        """The moves that lead a place on, each with the place to which it does."""
        return self.known().trail(place)

    def kin(self, one, other):
        """Whether two places are of one family."""
        return self.known().least(one) == self.known().least(other)

    def implies(self, one, other, many, *, turned=0):
        """Whether such a mating would change no family."""
        mating = (one, other, many, turned)
        need_mating(self.extent, mating)
        # One that is not implied makes families one, so there are fewer of them.
        return families_of(self.extent, self.told() + [mating]) == families_of(self.extent, self.told())

    def alike(self, other):
        """Whether the other road has the same length and the same families."""
        if self.extent != other.length():
            return False
        mine = self.told()
        others = [mating for number, mating in other.matings()]
        # Both have as many as the road with all matings just where each implies those of the other.
        both = families_of(self.extent, mine + others)
        return both == families_of(self.extent, mine) and both == families_of(self.extent, others)

    def turned_about(self):
        """How many families are turned about themselves."""
        # Swelled by two, one that is turned about itself becomes one family, each other one becomes two.
        twice = [swelled(mating, 2) for mating in self.told()]
        return 2 * families_of(self.extent, self.told()) - families_of(2 * self.extent, twice)

    def folded(self):
        """How often it was folded."""
        return self.foldings

    def keeps(self):
        """Whether it keeps a folding."""
        return self.kept is not None

    def twin(self):
        """A road of its own that is like this one in all."""
        other = Road(self.extent)
        other.standing = dict(self.standing)
        other.kept = self.kept
        other.foldings = self.foldings
        return other

    def __eq__(self, other):
        return isinstance(other, Road) and self.extent == other.extent and self.standing == other.standing

    def __repr__(self):
        return f"Road({self.extent} places, {len(self.standing)} matings)"
