"""What the document tells of halls, with roads whose matings are kept as pairs of places.

Nothing here uses the package: it is what the package is held against.
"""

import re

FAR = 10 ** 18
MOST = 24


class Refused(Exception):
    def __init__(self, word, *fields):
        super().__init__(word)
        self.told = (word,) + fields


class PlainRoad:
    """A very road; it is never changed, but by being asked."""

    def __init__(self, length, matings, folded=0, keeps=False):
        self.length = length
        self.matings = matings
        self.folded = folded
        self.keeps = keeps

    def twin(self):
        return PlainRoad(self.length, dict(self.matings), self.folded, self.keeps)

    def ask(self):
        if not self.keeps:
            self.folded += 1
            self.keeps = True

    def stand(self):
        return (self.length, sorted(self.matings.items()))

    def become(self, length, matings):
        """This very road where it is as it was, else another one."""
        if (length, matings) == (self.length, self.matings):
            return self
        return PlainRoad(length, matings, self.folded)

    def new_numbers(self, matings):
        first = max(self.matings, default=0) + 1
        return {**self.matings, **{first + at: mating for at, mating in enumerate(matings)}}

    def mate(self, one, other, many, turned):
        mating = (one, other, many, turned)
        numbers = all(type(number) is int for number in mating)
        if not numbers or many < 1 or one < 0 or other < 0 or max(one, other) + many > self.length or turned not in (0, 1):
            raise Refused("BadMating", mating)
        if len(self.matings) == MOST:
            raise Refused("Full", MOST)
        return self.become(self.length, self.new_numbers([mating]))

    def strike(self, number):
        if type(number) is not int or number not in self.matings:
            raise Refused("NoMating", number)
        return self.become(self.length, {k: self.matings[k] for k in self.matings if k != number})

    def grow(self, more):
        if type(more) is not int or not 0 <= more <= FAR - self.length:
            raise Refused("BadNumber", more)
        return self.become(self.length + more, dict(self.matings))

    def trim(self, length):
        if type(length) is not int or not 0 <= length <= self.length:
            raise Refused("BadNumber", length)
        kept = {k: trimmed(self.matings[k], length) for k in self.matings}
        return self.become(length, {k: kept[k] for k in kept if kept[k]})

    def swell(self, times):
        if type(times) is not int or times < 1 or times * self.length > FAR:
            raise Refused("BadNumber", times)
        swollen = {k: tuple(times * number for number in self.matings[k][:3]) + self.matings[k][3:] for k in self.matings}
        return self.become(times * self.length, swollen)

    def behind(self, other):
        if self.length + other.length > FAR:
            raise Refused("BadNumber", self.length + other.length)
        if len(self.matings) + len(other.matings) > MOST:
            raise Refused("Full", MOST)
        moved = [(one + self.length, two + self.length, many, turned)
                 for number, (one, two, many, turned) in sorted(other.matings.items())]
        return self.become(self.length + other.length, self.new_numbers(moved))


def trimmed(mating, length):
    """What is left of a mating, by its pairs; they are few at the end that is cut off."""
    one, other, many, turned = mating
    while many and max(one, other) + many > length:
        # The pair of the greatest place of either stretch goes.
        if turned and one + many <= length:
            one, many = one + 1, many - 1
        elif turned:
            other, many = other + 1, many - 1
        else:
            many -= 1
    return (one, other, many, turned) if many else None


def is_name(text):
    return re.fullmatch("[a-z]{1,6}", text) is not None


class PlainHall:
    """All states, each a dict of very roads by names."""

    def __init__(self, most):
        self.most = most
        self.past = []
        self.now = {}
        self.again = []

    def road(self, roads, name):
        if name not in roads:
            raise Refused("NoRoad", name)
        return roads[name]

    def need_room(self, roads, name):
        if not is_name(name):
            raise Refused("BadName", name)
        if name in roads:
            raise Refused("Taken", name)
        if len(roads) == self.most:
            raise Refused("Full", self.most)

    def after(self, roads, deed):
        """The roads behind a deed."""
        kind, name, *told = deed
        if kind == "lay":
            self.need_room(roads, name)
            if type(told[0]) is not int or not 0 <= told[0] <= FAR:
                raise Refused("BadNumber", told[0])
            return {**roads, name: PlainRoad(told[0], {})}
        road = self.road(roads, name)
        if kind == "clear":
            return {other: roads[other] for other in roads if other != name}
        if kind == "copy":
            self.need_room(roads, told[0])
            return {**roads, told[0]: road.twin()}
        if kind == "behind":
            told = [self.road(roads, told[0])]
        return {**roads, name: getattr(road, kind)(*told)}

    def together(self, deeds):
        """None, or the word of the refusal with its fields."""
        roads = self.now
        try:
            for deed in deeds:
                roads = self.after(roads, deed)
        except Refused as refused:
            return refused.told
        if deeds:
            self.past.append(self.now)
            self.now = roads
            self.again = []
        return None

    def undo(self):
        if not self.past:
            return ("NothingLeft",)
        self.again.append(self.now)
        self.now = self.past.pop()
        return None

    def redo(self):
        if not self.again:
            return ("NothingLeft",)
        self.past.append(self.now)
        self.now = self.again.pop()
        return None

    def stand(self):
        """What a hall must tell of itself."""
        roads = {name: self.now[name].stand() for name in self.now}
        folded = {name: (self.now[name].folded, self.now[name].keeps) for name in self.now}
        return (sorted(roads.items()), folded, (len(self.past), len(self.again)))


def page(roads):
    """The page of a dict of (length, pairs of number and mating) by names."""
    rows = []
    for name in sorted(roads):
        length, matings = roads[name]
        rows.append(f"road {name} {length}")
        for number, (one, other, many, turned) in matings:
            rows.append(" ".join(["mate", str(number), str(one), str(other), str(many), ["straight", "turned"][turned]]))
    return "\n".join(rows)


NUMBER = "(0|[1-9][0-9]{0,29})"
ROAD_ROW = re.compile(f"road ([a-z]{{1,6}}) {NUMBER}")
MATE_ROW = re.compile(f"mate {NUMBER} {NUMBER} {NUMBER} {NUMBER} (straight|turned)")


def page_fault(text, most):
    """The number of the first row that makes the text no page for so many roads, or None."""
    names, length, numbers = [], None, []
    for at, row in enumerate(text.split("\n") if text else []):
        road, mate = ROAD_ROW.fullmatch(row), MATE_ROW.fullmatch(row)
        if road:
            if len(names) == most or (names and names[-1] >= road[1]) or int(road[2]) > FAR:
                return at
            names.append(road[1])
            length, numbers = int(road[2]), [0]
        elif mate:
            number, one, other, many = [int(told) for told in mate.groups()[:4]]
            if length is None or len(numbers) > MOST or number <= numbers[-1]:
                return at
            if many < 1 or max(one, other) + many > length:
                return at
            numbers.append(number)
        else:
            return at
    return None
