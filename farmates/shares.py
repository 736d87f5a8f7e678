"""Shares: how many places of a stretch come to each least place, by leading whole pieces down the folds."""


class Shares:
    """Weights of places, told by marks: at each the weight changes by so much, for all places from it on."""

    def __init__(self):
        self.marks = {}

    def lay(self, begin, end, weight):
        """Lay so much more upon each place from begin to one less than end."""
        if begin < end and weight != 0:
            self.change(begin, weight)
            self.change(end, -weight)

    def change(self, mark, by):
        """Let the weight change by so much more at the mark."""
        weight = self.marks.get(mark, 0) + by
        if weight == 0:
            del self.marks[mark]
        else:
            self.marks[mark] = weight

    def cut_off(self, low):
        """Take off all places from low on: the falling list of their pieces (from, to, weight) that weigh anything."""
        pieces = []
        weight = 0
        end = low
        above = sorted([mark for mark in self.marks if mark > low], reverse=True)
        for mark in above:
            if weight != 0:
                pieces.append((mark, end, weight))
            weight -= self.marks.pop(mark)
            end = mark
        if weight != 0:
            pieces.append((low, end, weight))
            self.change(low, -weight)
        return pieces


def led_by(event, place):
    """Where a fold, as a front tells it, leads a place that it meets."""
    name, begin, end, low, step, turned = event
    if turned == 1:
        return low + end - 1 - place
    return low + (place - low) % step


def wound(low, step, piece):
    """The pieces to which one comes where each place is led down by the step as often as can be, to low at least."""
    begin, end, weight = piece
    rounds, rest = divmod(end - begin, step)
    start = low + (begin - low) % step
    over = start + rest - (low + step)
    return [
        (low, low + step, rounds * weight),
        (start, min(start + rest, low + step), weight),
        (low, low + max(0, over), weight),
    ]


def led_pieces(event, pieces):
    """Where a fold leads pieces that lie wholly in what it folds."""
    name, begin, end, low, step, turned = event
    if turned == 1:
        return [(low + end - behind, low + end - first, weight) for first, behind, weight in pieces]
    return [told for piece in pieces for told in wound(low, step, piece)]


def settled(events, begin, end):
    """The rising list of pieces (from, to, many): least places to each of which come so many places from begin to end.

    The events are those of a front that is folded to its end, by rising places.
    """
    shares = Shares()
    shares.lay(begin, end, 1)
    home = []
    for event in reversed(events):
        pieces = shares.cut_off(event[1])
        if event[0] == "bare":
            home.extend(pieces)
        else:
            for first, behind, weight in led_pieces(event, pieces):
                shares.lay(first, behind, weight)
    home.reverse()
    return home
