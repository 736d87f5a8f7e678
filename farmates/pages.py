"""Pages: the roads of a hall as a text, and the hall that a page tells."""

from farmates.errors import BadText, FarError
from farmates.hall import LONGEST_NAME, ROADS, hall_of
from farmates.roads import Road
from farmates.texts import TURNS, is_name, read_words

ROAD_ROW = ("name", "number")
MATE_ROW = ("number", "number", "number", "number", "turn")


def page(hall):
    """The text of the hall's roads with their matings."""
    rows = []
    for name in hall.names():
        road = hall.road(name)
        rows.append(f"road {name} {road.length()}")
        for number, (one, other, many, turned) in road.matings():
            rows.append(f"mate {number} {one} {other} {many} {TURNS[turned]}")
    return "\n".join(rows)


def read_page(text, *, most=ROADS):
    """The hall, made for so many roads, that the page tells."""
    reader = Reader(most)
    # The empty text has no row, not an empty one.
    rows = text.split("\n") if text != "" else []
    for at, row in enumerate(rows):
        if not reader.takes(row):
            raise BadText(at)
    return hall_of(reader.roads, most)


class Reader:
    """Reads the rows of a page, one behind another, and keeps the roads that they tell."""

    def __init__(self, most):
        self.most = most
        self.roads = {}
        self.last = ""

    def takes(self, row):
        """Take the row where it may stand here on a page; whether it may."""
        first, *words = row.split(" ")
        try:
            if first == "road":
                return self.takes_road(words)
            return first == "mate" and self.takes_mating(words)
        except FarError:
            return False

    def takes_road(self, words):
        """Take a row that begins a road, whose name rises above the last one's."""
        told = read_words(ROAD_ROW, words)
        if told is None or len(self.roads) >= self.most:
            return False
        name, length = told
        if not is_name(name, LONGEST_NAME) or name <= self.last:
            return False
        self.roads[name] = Road(length)
        self.last = name
        return True

    def takes_mating(self, words):
        """Take a row that tells a mating of the last road, whose number rises above all of this one's."""
        told = read_words(MATE_ROW, words)
        if told is None or self.last == "":
            return False
        number, one, other, many, turned = told
        road = self.roads[self.last]
        if number < road.next_number():
            return False
        road.mate_as(number, (one, other, many, turned))
        return True
