"""Roads, stretches and matings: how places are led, place for place, without going through them."""

from farmates.errors import BadMating, BadNumber, BadPlace, BadStretch

FAR = 10 ** 18
MOST = 24


def need_from(low, number):
    """Refuse what is no number from low on."""
    if isinstance(number, bool) or number < low:
        raise BadNumber(number)


def need_within(low, high, number):
    """Refuse what is no number from low to high."""
    need_from(low, number)
    if number > high:
        raise BadNumber(number)


def need_length(number):
    """Refuse what is no length of a road."""
    need_within(0, FAR, number)


def is_mating(length, mating):
    """Whether a tuple of four numbers is a mating of a road of this length."""
    one, other, many, turned = mating
    # True would pass for 1 in all that follows.
    if any([isinstance(number, bool) for number in (length, one, other, many, turned)]):
        return False
    if turned not in (0, 1) or many < 1:
        return False
    return min(one, other) >= 0 and max(one, other) + many <= length


def need_mating(length, mating):
    """Refuse what is no mating of a road of this length."""
    if not is_mating(length, mating):
        raise BadMating(mating)


def need_place(length, place):
    """Refuse what is no place of a road of this length."""
    if isinstance(place, bool) or place < 0 or place >= length:
        raise BadPlace(place)


def need_stretch(length, at, many):
    """Refuse what is no stretch of a road of this length."""
    if isinstance(at, bool) or isinstance(many, bool) or at < 0 or many < 1 or at + many > length:
        raise BadStretch(at, many)


def common(one, other):
    """The greatest number that goes into both."""
    while other != 0:
        one, other = other, one % other
    return one


def normal(mating):
    """The mating with its lesser stretch first."""
    if mating[0] > mating[1]:
        return back(mating)
    return mating


def back(mating):
    """The mating told the other way about."""
    one, other, many, turned = mating
    return (other, one, many, turned)


def led(mating, place):
    """Where a place of the one stretch is led, or None."""
    if not holds(mating, place, 1):
        return None
    return part(mating, place, 1)[1]


def part(mating, at, many):
    """The mating that leads just the stretch (at, many) as this one does."""
    if not holds(mating, at, many):
        raise BadStretch(at, many)
    one, other, reach, turned = mating
    ahead = at - one
    if turned == 1:
        # A turned mating counts the other stretch from its far end.
        return (at, other + reach - ahead - many, many, 1)
    return (at, other + ahead, many, 0)


def holds(mating, at, many):
    """Whether (at, many) is a stretch that lies wholly in the one stretch."""
    if isinstance(at, bool) or isinstance(many, bool) or many < 1:
        return False
    return mating[0] <= at and at + many <= mating[0] + mating[2]


def after(first, second):
    """The mating that leads by first and then by second, of all places that both lead, or None."""
    low = max(first[1], second[0])
    many = min(first[1] + first[2], second[0] + second[2]) - low
    if many < 1:
        return None
    start = part(back(first), low, many)
    goal = part(second, low, many)
    return (start[1], goal[1], many, start[3] ^ goal[3])


def moved(mating, by):
    """The mating with both stretches moved on."""
    one, other, many, turned = mating
    return (one + by, other + by, many, turned)


def swelled(mating, times):
    """The mating where each place has become so many side by side."""
    one, other, many, turned = mating
    return (times * one, times * other, times * many, turned)


def clipped(mating, length):
    """What is left of the mating, of the pairs of places that are both below length, or None."""
    one, other, many, turned = mating
    low = one
    end = min(one + many, length)
    if turned == 1:
        # The first places of the one stretch are led to the far end, so these are lost first.
        low = one + max(0, other + many - length)
    else:
        end = min(end, one + length - other)
    if end <= low:
        return None
    return part(mating, low, end - low)
