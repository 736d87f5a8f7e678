"""The refusals of the program: each bears what was refused, and its word."""


class FarError(ValueError):
    """What was handed in cannot be taken."""

    def __init__(self, why=""):
        ValueError.__init__(self, why)
        self.word = "FarError"


class BadNumber(FarError):
    """A number that is out of its bounds, or none at all."""

    def __init__(self, number):
        FarError.__init__(self, f"out of bounds: {number}")
        self.number = number
        self.word = "BadNumber"


class BadName(FarError):
    """A name that is not written as a name."""

    def __init__(self, name):
        FarError.__init__(self, f"no name: {name}")
        self.name = name
        self.word = "BadName"


class BadMating(FarError):
    """A mating that does not lie on its road."""

    def __init__(self, mating):
        FarError.__init__(self, f"no mating of the road: {mating}")
        self.mating = mating
        self.word = "BadMating"


class BadPlace(FarError):
    """A place that is not on the road."""

    def __init__(self, place):
        FarError.__init__(self, f"no place of the road: {place}")
        self.place = place
        self.word = "BadPlace"


class BadStretch(FarError):
    """A stretch that does not lie where it must."""

    def __init__(self, at, many):
        FarError.__init__(self, f"no such stretch: {many} from {at} on")
        self.at = at
        self.many = many
        self.word = "BadStretch"


class BadMove(FarError):
    """A move that cannot be made where the road stands."""

    def __init__(self, move):
        FarError.__init__(self, f"cannot be made: {move}")
        self.move = move
        self.word = "BadMove"


class BadMoves(FarError):
    """A row of moves that is not right."""

    def __init__(self, at):
        FarError.__init__(self, f"not right at move {at}")
        self.at = at
        self.word = "BadMoves"


class BadBoard(FarError):
    """Cells that make no board."""

    def __init__(self, cell):
        FarError.__init__(self, f"wrong at cell {cell}")
        self.cell = cell
        self.word = "BadBoard"


class BadCounts(FarError):
    """Crossings that a cell does not let be."""

    def __init__(self, cell):
        FarError.__init__(self, f"cannot be joined in cell {cell}")
        self.cell = cell
        self.word = "BadCounts"


class BadSide(FarError):
    """A side that cannot be flipped."""

    def __init__(self, side):
        FarError.__init__(self, f"cannot be flipped: {side}")
        self.side = side
        self.word = "BadSide"


class TooMuch(FarError):
    """A number of crossings that would be too great."""

    def __init__(self, number):
        FarError.__init__(self, f"too much: {number}")
        self.number = number
        self.word = "TooMuch"


class BadText(FarError):
    """A text that is no page."""

    def __init__(self, at):
        FarError.__init__(self, f"wrong at row {at}")
        self.at = at
        self.word = "BadText"


class BadLine(FarError):
    """A line that the desk does not know."""

    def __init__(self):
        FarError.__init__(self, "no line of the desk")
        self.word = "BadLine"


class Taken(FarError):
    """A name that another road bears."""

    def __init__(self, name):
        FarError.__init__(self, f"taken: {name}")
        self.name = name
        self.word = "Taken"


class Full(FarError):
    """More than may stand at once."""

    def __init__(self, most):
        FarError.__init__(self, f"no more than {most}")
        self.most = most
        self.word = "Full"


class Missing(LookupError):
    """What was asked for is not there."""

    def __init__(self, why=""):
        LookupError.__init__(self, why)
        self.word = "Missing"


class NoMating(Missing):
    """No mating bears this number."""

    def __init__(self, number):
        Missing.__init__(self, f"no mating {number}")
        self.number = number
        self.word = "NoMating"


class NoRoad(Missing):
    """No road bears this name."""

    def __init__(self, name):
        Missing.__init__(self, f"no road {name}")
        self.name = name
        self.word = "NoRoad"


class NoSide(Missing):
    """No side bears this name."""

    def __init__(self, side):
        Missing.__init__(self, f"no side {side}")
        self.side = side
        self.word = "NoSide"


class NoFamily(Missing):
    """No family has this rank."""

    def __init__(self, number):
        Missing.__init__(self, f"no family {number}")
        self.number = number
        self.word = "NoFamily"


class NothingLeft(IndexError):
    """There is no step to take back or to do again."""

    def __init__(self):
        IndexError.__init__(self, "nothing left")
        self.word = "NothingLeft"
