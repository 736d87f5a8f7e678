"""Halls: roads by names that go through deeds, in steps that are taken back and done again."""

from farmates.errors import BadName, Full, NoRoad, NothingLeft, Taken
from farmates.roads import Road
from farmates.texts import is_name

ROADS = 6
LONGEST_NAME = 6


def very_road(seats, name):
    """The very road that sits by this name."""
    if name not in seats:
        raise NoRoad(name)
    return seats[name][1]


class Draft:
    """The roads of a hall while a step is done, so that one that is refused leaves the hall as it was.

    A very road is never changed by a deed: another one takes its seat. It sits by its name as (number, road), and
    the number, which no other very road has, tells it again in what stood behind other steps.
    """

    def __init__(self, seats, fresh, most):
        self.seats = dict(seats)
        self.fresh = fresh
        self.most = most

    def seat(self, name, road):
        """Let a road that sat nowhere yet bear this name."""
        self.seats[name] = (self.fresh, road)
        self.fresh += 1

    def need_room(self, name):
        """Refuse a name that no new road can bear."""
        if not is_name(name, LONGEST_NAME):
            raise BadName(name)
        if name in self.seats:
            raise Taken(name)
        if len(self.seats) >= self.most:
            raise Full(self.most)

    def do(self, deed):
        """Do the deed, or refuse it."""
        word, name, *told = deed
        if word == "lay":
            self.need_room(name)
            self.seat(name, Road(told[0]))
        elif word == "clear":
            very_road(self.seats, name)
            del self.seats[name]
        elif word == "copy":
            road = very_road(self.seats, name)
            self.need_room(told[0])
            self.seat(told[0], road.twin())
        else:
            self.change_road(word, name, told)

    def change_road(self, word, name, told):
        """Do a deed upon one road; where it leaves the road as it was, this stays the very one."""
        road = very_road(self.seats, name)
        if word == "behind":
            told = [very_road(self.seats, told[0])]
        changed = road.twin()
        do_upon(changed, word, told)
        if changed != road:
            self.seat(name, changed)


def do_upon(road, word, told):
    """Do the deed upon the road; told is what stands behind the road's name, of another road this one itself."""
    if word == "mate":
        one, other, many, turned = told
        road.mate(one, other, many, turned=turned)
    elif word == "strike":
        road.strike(told[0])
    elif word == "grow":
        road.grow(told[0])
    elif word == "trim":
        road.trim(told[0])
    elif word == "swell":
        road.swell(told[0])
    elif word == "behind":
        road.behind(told[0])


def hall_of(roads, most):
    """A hall of these roads by their names, with nothing to take back."""
    hall = Hall(most=most)
    draft = hall.draft()
    for name in sorted(roads):
        draft.seat(name, roads[name])
    hall.fresh = draft.fresh
    hall.states = [draft.seats]
    return hall


class Hall:
    """Roads by names, with all steps that brought them here and that were taken back."""

    def __init__(self, *, most=ROADS):
        self.most = most
        self.fresh = 0
        # What stands ahead of all steps, then behind each one; now is the number of those that are done.
        self.states = [{}]
        self.now = 0

    def draft(self):
        """The roads that stand now, for a step."""
        return Draft(self.states[self.now], self.fresh, self.most)

    def do(self, deed):
        """Do one deed as a step."""
        self.together([deed])

    def together(self, deeds):
        """Do several deeds as one step, all of them or none."""
        if len(deeds) == 0:
            return
        draft = self.draft()
        for deed in deeds:
            draft.do(deed)
        del self.states[self.now + 1:]
        self.states.append(draft.seats)
        self.now += 1
        self.fresh = draft.fresh

    def undo(self):
        """Take the last step back."""
        if self.now == 0:
            raise NothingLeft()
        self.now -= 1

    def redo(self):
        """Do the step again that was taken back last."""
        if self.now == len(self.states) - 1:
            raise NothingLeft()
        self.now += 1

    def names(self):
        """The rising list of the roads' names."""
        return sorted(self.states[self.now])

    def very(self, name):
        """The very road of this name, to be asked only."""
        return very_road(self.states[self.now], name)

    def road(self, name):
        """A twin of the road of this name."""
        return self.very(name).twin()

    def ask(self, name):
        """How many families the very road has."""
        return self.very(name).count()

    def folded(self, name):
        """How often the very road was folded."""
        return self.very(name).folded()

    def keeps(self, name):
        """Whether the very road keeps a folding."""
        return self.very(name).keeps()

    def steps(self):
        """How many steps can be taken back, and how many done again."""
        return (self.now, len(self.states) - 1 - self.now)

    def twin(self):
        """A hall of its own that is like this one in all."""
        twins = {}
        for seats in self.states:
            for number, road in seats.values():
                # One that sits in several states is one road in those of the twin, too.
                if number not in twins:
                    twins[number] = (number, road.twin())
        other = Hall(most=self.most)
        other.fresh = self.fresh
        other.states = [{name: twins[seats[name][0]] for name in seats} for seats in self.states]
        other.now = self.now
        return other

    def by_names(self):
        """The very roads by their names."""
        return {name: road for name, (number, road) in self.states[self.now].items()}

    def __len__(self):
        return len(self.states[self.now])

    def __eq__(self, other):
        return isinstance(other, Hall) and self.by_names() == other.by_names()

    def __repr__(self):
        return f"Hall({', '.join(self.names())})"
