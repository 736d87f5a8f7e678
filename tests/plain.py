"""What the document tells of short roads, done by going through the places one by one.

Nothing here uses the package: it is what the package is held against.
"""

from math import gcd


def pairs(mating):
    """The pairs (place, where it is led), by rising places."""
    one, other, many, turned = mating
    if turned:
        return [(one + k, other + many - 1 - k) for k in range(many)]
    return [(one + k, other + k) for k in range(many)]


def mating_of(told, turned):
    """The mating that has just these pairs, lesser stretch first, or None of no pairs."""
    if not told:
        return None
    ones = [p for p, q in told]
    others = [q for p, q in told]
    low, high = sorted((min(ones), min(others)))
    return (low, high, len(told), turned)


def matings_of(length):
    """All matings of a road."""
    return [
        (one, other, many, turned)
        for many in range(1, length + 1)
        for one in range(length - many + 1)
        for other in range(length - many + 1)
        for turned in (0, 1)
    ]


def families(length, matings):
    """The least place of the family of each place, by joining the places one by one."""
    least = list(range(length))

    def root(place):
        while least[place] != place:
            place = least[place]
        return place

    for mating in matings:
        for p, q in pairs(mating):
            low, high = sorted((root(p), root(q)))
            least[high] = low
    return [root(place) for place in range(length)]


def turned_families(length, matings):
    """For each place (least place, how often turned on the way there, modulo 2), and the set of
    least places of the families that are turned about themselves."""
    steps = {place: [] for place in range(length)}
    for mating in matings:
        for p, q in pairs(mating):
            steps[p].append((q, mating[3]))
            steps[q].append((p, mating[3]))
    found = {}
    about = set()
    for start in range(length):
        if start in found:
            continue
        found[start] = (start, 0)
        waiting = [start]
        while waiting:
            place = waiting.pop()
            for goal, turned in steps[place]:
                told = (start, found[place][1] ^ turned)
                if goal not in found:
                    found[goal] = told
                    waiting.append(goal)
                elif found[goal] != told:
                    about.add(start)
    return [found[place] for place in range(length)], about


def led_place(event, place):
    """Where a fold, as led_on tells it, leads a place."""
    name, start, end, low, step, turned = event
    assert name == "fold" and start <= place < end
    if turned:
        assert step == 0
        return low + (end - 1 - place)
    return low + (place - low) % step


def led_home(events, place):
    """Where a place comes to by all that was made with the places above the top."""
    for event in events:
        if event[1] <= place < event[2]:
            if event[0] == "bare":
                return place
            place = led_place(event, place)
    return place


def bare_places(events):
    """How many places are bare."""
    return sum(event[2] - event[1] for event in events if event[0] == "bare")


class PlainFront:
    """A front that looks at each place of each mating."""

    def __init__(self, length, matings):
        self.top = length
        self.left = {}
        for i, mating in enumerate(matings):
            self.left[i] = mating_of(pairs(mating), mating[3])
        self.events = []

    def twin(self):
        other = PlainFront(self.top, [])
        other.left = dict(self.left)
        other.events = list(self.events)
        return other

    def make(self, move):
        """Whether the move may be made; it then is."""
        if any(number is True or number is False for number in move):
            return False
        return getattr(self, move[0])(*move[1:])

    def put(self, i, mating):
        if mating is None:
            del self.left[i]
        else:
            self.left[i] = mating

    def places(self, i, side):
        at = self.left[i][side]
        return set(range(at, at + self.left[i][2]))

    def straight_step(self, i):
        one, other, many, turned = self.left[i]
        return None if turned else other - one

    def leads(self, i):
        if i not in self.left:
            return False
        if self.left[i][3]:
            return not self.places(i, 0) & self.places(i, 1)
        return self.straight_step(i) >= 1

    def free_from(self, m, but=None):
        return all(
            place < m
            for i in self.left
            if i != but
            for side in (0, 1)
            for place in self.places(i, side)
        )

    def idle(self, i):
        if i not in self.left or self.straight_step(i) != 0:
            return False
        self.put(i, None)
        return True

    def halve(self, i):
        if i not in self.left or not self.left[i][3]:
            return False
        if not self.places(i, 0) & self.places(i, 1):
            return False
        once = {tuple(sorted(pair)) for pair in pairs(self.left[i])}
        self.put(i, mating_of([(p, q) for p, q in once if p < q], 1))
        return True

    def merge(self, i, j):
        if i == j or i not in self.left or j not in self.left:
            return False
        steps = [self.straight_step(k) for k in (i, j)]
        manies = [self.left[k][2] for k in (i, j)]
        if None in steps or any(not 1 <= s <= many for s, many in zip(steps, manies)):
            return False
        spans = [self.places(k, 0) | self.places(k, 1) for k in (i, j)]
        if len(spans[0] & spans[1]) < sum(steps):
            return False
        tied = spans[0] | spans[1]
        step = gcd(*steps)
        self.put(i, mating_of([(p, p + step) for p in tied if p + step in tied], 0))
        self.put(j, None)
        return True

    def home(self, i):
        """Where i told back leads each place of its other stretch, once."""
        return {q: p for p, q in pairs(self.left[i])}

    def lead(self, j, side, i):
        if i == j or j not in self.left or side not in (0, 1) or not self.leads(i):
            return False
        home = self.home(i)
        at, many = self.left[j][side], self.left[j][2]
        if not all(place in home for place in range(at, at + many)):
            return False
        led = {place: home[place] for place in range(at, at + many)}
        while not self.left[i][3] and led[at] in home:
            led = {place: home[led[place]] for place in led}
        turned = self.left[j][3]
        if self.left[i][3]:
            turned = 1 - turned
        begins = [self.left[j][0], self.left[j][1]]
        begins[side] = min(led.values())
        self.put(j, (min(begins), max(begins), many, turned))
        return True

    def fold(self, i, m):
        if not self.leads(i) or max(self.places(i, 1)) != self.top - 1:
            return False
        if m not in self.places(i, 1) or not self.free_from(m, but=i):
            return False
        one, other, many, turned = self.left[i]
        step = 0 if turned else other - one
        self.events.append(("fold", m, self.top, one, step, turned))
        self.put(i, mating_of([(p, q) for p, q in pairs(self.left[i]) if q < m], turned))
        self.top = m
        return True

    def bare(self, m):
        if not 0 <= m < self.top or not self.free_from(m):
            return False
        self.events.append(("bare", m, self.top))
        self.top = m
        return True


def plain_judge(length, matings, moves):
    """What judge must tell of a short road."""
    front = PlainFront(length, matings)
    for at, move in enumerate(moves):
        if not front.make(move):
            return at
    return None if front.top == 0 else len(moves)


class PlainFolding:
    """What a folding tells, by the least place of each place."""

    def __init__(self, length, matings):
        self.homes = families(length, matings)
        self.leasts = sorted(set(self.homes))

    def count(self):
        return len(self.leasts)

    def least(self, place):
        return self.homes[place]

    def size(self, place):
        return self.homes.count(self.homes[place])

    def rank(self, place):
        return self.leasts.index(self.homes[place])

    def family(self, number):
        return self.leasts[number]

    def spans(self):
        told = []
        for place in self.leasts:
            if told and told[-1][1] == place and told[-1][2] == self.size(place):
                told[-1] = (told[-1][0], place + 1, told[-1][2])
            else:
                told.append((place, place + 1, self.size(place)))
        return told

    def sizes(self):
        sizes = [self.size(place) for place in self.leasts]
        return [(size, sizes.count(size)) for size in sorted(set(sizes))]

    def meeting(self, at, many):
        return len(set(self.homes[at:at + many]))

    def inside(self, place, at, many):
        return self.homes[at:at + many].count(self.homes[place])


def plain_trail(length, matings, moves, place):
    """The trail of a place by a row of moves."""
    front = PlainFront(length, matings)
    told = []
    for at, move in enumerate(moves):
        assert front.make(move)
        if move[0] == "fold" and front.events[-1][1] <= place < front.events[-1][2]:
            place = led_place(front.events[-1], place)
            told.append((at, place))
    return told


def stretches_of(length):
    """All stretches of a road."""
    return [(at, many) for at in range(length) for many in range(1, length - at + 1)]


def all_told(folding, length):
    """All that a folding tells but its moves and trails, of all places and stretches."""
    places = range(length)
    stretches = stretches_of(length)
    return {
        "count": folding.count(),
        "least": [folding.least(place) for place in places],
        "size": [folding.size(place) for place in places],
        "rank": [folding.rank(place) for place in places],
        "family": [folding.family(number) for number in range(folding.count())],
        "spans": folding.spans(),
        "sizes": folding.sizes(),
        "meeting": [folding.meeting(at, many) for at, many in stretches],
        "inside": [folding.inside(place, at, many) for place in places for at, many in stretches],
    }
