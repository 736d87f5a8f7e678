"""Boards of three-sided cells, and loops on them, told by how often they cross each side."""

from farmates.errors import BadBoard, BadCounts, BadSide, NoSide, TooMuch
from farmates.foldings import families_of
from farmates.roads import Road
from farmates.stretches import need_from, need_within
from farmates.texts import is_name

CELLS = 8
DEEP = 10 ** 15
LONGEST_SIDE = 4


def is_against(side):
    """Whether the side is gone along against itself."""
    return side.startswith("-")


def name_of(side):
    """The name of a side, without its sign."""
    return side[1:] if is_against(side) else side


def opposite(side):
    """The side gone along the other way."""
    return name_of(side) if is_against(side) else "-" + side


def is_cell(cell):
    """Whether it has three sides that are written as such."""
    return len(cell) == 3 and all([is_name(name_of(side), LONGEST_SIDE) for side in cell])


def stands_of(cells):
    """By each name the pairs (cell, side of it) where it stands; the first cell that is wrong is refused."""
    stands = {}
    for at, cell in enumerate(cells):
        if at >= CELLS or not is_cell(cell):
            raise BadBoard(at)
        for k, side in enumerate(cell):
            stands.setdefault(name_of(side), []).append((at, k))
        if any([len(stands[name_of(side)]) > 2 for side in cell]):
            raise BadBoard(at)
    if not stands:
        raise BadBoard(0)
    return stands


class Board:
    """Cells whose sides of one name are laid upon one another."""

    def __init__(self, cells):
        self.stands = stands_of(cells)
        self.rows = [tuple(cell) for cell in cells]

    def cells(self):
        """The list of cells."""
        return list(self.rows)

    def sides(self):
        """The rising list of all names."""
        return sorted(self.stands)

    def rim(self):
        """The rising list of the names that stand once."""
        return [name for name in self.sides() if len(self.stands[name]) == 1]

    def corners(self):
        """How many points the cells' corners come to."""
        # As places of a road, those are mated at which ends are laid upon one another (on the rim upon themselves).
        matings = []
        for name in self.sides():
            ends = [self.ends(at, k) for at, k in self.stands[name]]
            matings.extend([(one, other, 1, 0) for one, other in zip(ends[0], ends[-1])])
        return families_of(3 * len(self.rows), matings)

    def ends(self, at, k):
        """The corners, three to a cell, at which side k of a cell begins and ends, in its own direction."""
        begin = 3 * at + (k + 2) % 3
        end = 3 * at + k
        return (end, begin) if is_against(self.rows[at][k]) else (begin, end)

    def around(self, side):
        """Both cells of a side that can be flipped, read from it on: (e, p, q) and (-e, r, s)."""
        if side not in self.stands:
            raise NoSide(side)
        where = self.stands[side]
        if len(where) == 1 or where[0][0] == where[1][0]:
            raise BadSide(side)
        first, second = [self.rows[at][k:] + self.rows[at][:k] for at, k in where]
        if first[0] == second[0]:
            # It stands the same way in both, so the second one is read backwards.
            second = (opposite(second[0]), opposite(second[2]), opposite(second[1]))
        return (first, second)

    def flipped(self, side):
        """The board with this side laid across its two cells the other way."""
        (e, p, q), (against, r, s) = self.around(side)
        (first, k), (second, j) = self.stands[side]
        cells = list(self.rows)
        cells[first] = (e, s, p)
        cells[second] = (against, q, r)
        return Board(cells)

    def __len__(self):
        return len(self.rows)

    def __eq__(self, other):
        return isinstance(other, Board) and self.rows == other.rows


def twice_joined(cell, crossed):
    """Twice how many crossings would be joined at each corner of the cell."""
    first, second, third = [crossed[name_of(side)] for side in cell]
    return [first + second - third, second + third - first, third + first - second]


def need_counts(board, counts):
    """Refuse names that are not just the board's, then numbers out of bounds, then what a cell doesn't let by."""
    unlike = sorted(set(board.sides()) ^ set(counts))
    if unlike:
        raise NoSide(unlike[0])
    for name in board.sides():
        need_within(0, DEEP, counts[name])
    for at, cell in enumerate(board.cells()):
        twice = twice_joined(cell, counts)
        # All three are even where their sum, that of the cell's numbers, is.
        if min(twice) < 0 or twice[0] % 2 == 1:
            raise BadCounts(at)


class Loops:
    """Loops and arcs on a board of their own."""

    def __init__(self, board, counts):
        need_counts(board, counts)
        self.board = Board(board.cells())
        self.crossed = {name: counts[name] for name in board.sides()}

    def counts(self):
        """How often each side is crossed, by rising names."""
        return dict(self.crossed)

    def board_now(self):
        """The board as it is behind all flips."""
        return Board(self.board.cells())

    def length(self):
        """How many crossings there are."""
        return sum(self.crossed.values())

    def joints(self):
        """The list of matings that join the crossings, cell by cell, corner by corner."""
        told = []
        for cell in self.board.cells():
            for k, twice in enumerate(twice_joined(cell, self.crossed)):
                if twice > 0:
                    told.append(self.joint(cell[k], cell[(k + 1) % 3], twice // 2))
        return told

    def joint(self, side, following, many):
        """The mating of so many crossings at the corner where a side ends and the following one begins."""
        one = self.first_at(name_of(side), many, not is_against(side))
        other = self.first_at(name_of(following), many, is_against(following))
        # Counted from the corner, one side's rise and the other's fall where both are gone along alike.
        return (one, other, many, 1 if is_against(side) == is_against(following) else 0)

    def first_at(self, name, many, at_end):
        """The place of the first of so many crossings that lie at the end of a side, or else at its beginning."""
        if at_end:
            return self.start(name) + self.crossed[name] - many
        return self.start(name)

    def road(self):
        """The road of all crossings, whose families are the loops and arcs."""
        road = Road(self.length())
        for one, other, many, turned in self.joints():
            road.mate(one, other, many, turned=turned)
        return road

    def start(self, side):
        """The place of the first crossing of a side on the road."""
        if side not in self.crossed:
            raise NoSide(side)
        return sum([self.crossed[name] for name in self.crossed if name < side])

    def curves(self):
        """How many loops and arcs there are."""
        return families_of(self.length(), self.joints())

    def loops(self):
        """How many loops there are."""
        return self.curves() - self.arcs()

    def arcs(self):
        """How many arcs there are."""
        # Each crossing of the rim is one end of an arc, which has two.
        return sum([self.crossed[name] for name in self.board.rim()]) // 2

    def flip(self, side):
        """Flip the side, loops and arcs staying as they are."""
        (e, p, q), (against, r, s) = [
            [self.crossed[name_of(told)] for told in cell] for cell in self.board.around(side)
        ]
        number = max(p + r, q + s) - e
        if number > DEEP:
            raise TooMuch(number)
        self.board = self.board.flipped(side)
        self.crossed[side] = number

    def times(self, k):
        """Loops that cross each side k times as often."""
        need_from(0, k)
        greatest = k * max(self.crossed.values())
        if greatest > DEEP:
            raise TooMuch(greatest)
        return Loops(self.board, {name: k * self.crossed[name] for name in self.crossed})

    def twin(self):
        """Loops of their own that are like these."""
        return Loops(self.board, self.crossed)
