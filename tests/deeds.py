"""Deeds for tests, good ones and bad ones, the same in each run, and what a hall tells of itself."""

from farmates.errors import FarError, Missing, NothingLeft

KINDS = ["lay", "clear", "copy", "mate", "strike", "grow", "trim", "swell", "behind"]
GOOD_NAMES = ["a", "b", "c", "zz", "aa", "abcdef", "q", "zzzzzz"]
BAD_NAMES = ["", "A", "aB", "abcdefg", "a1", "-a", "a b", "a\n", "1", "{"]
ODD_NUMBERS = [-1, True, False, 10 ** 18 + 1, 10 ** 29, -10 ** 29]
FIELDS = {
    "BadNumber": ["number"], "BadName": ["name"], "BadMating": ["mating"], "Taken": ["name"], "Full": ["most"],
    "NoMating": ["number"], "NoRoad": ["name"], "NothingLeft": [],
}


def exact(told):
    """The value with its kind, so that True is not taken for 1."""
    if isinstance(told, tuple):
        return tuple(exact(part) for part in told)
    return (type(told).__name__, told)


def refusal(deed):
    """None, or the word of the refusal with its fields."""
    try:
        assert deed() is None
    except (FarError, Missing, NothingLeft) as error:
        assert error.word == type(error).__name__
        return (error.word,) + tuple(getattr(error, field) for field in FIELDS[error.word])
    return None


def stand(hall):
    """What a hall tells of itself, without asking a road."""
    roads = [(name, (hall.road(name).length(), hall.road(name).matings())) for name in hall.names()]
    folded = {name: (hall.folded(name), hall.keeps(name)) for name in hall.names()}
    assert len(hall) == len(roads)
    return (roads, folded, hall.steps())


def some_name(chance, hall):
    """Mostly a name of a road, now and then any other."""
    if hall.names() and chance.randrange(10):
        return chance.choice(hall.names())
    return chance.choice(GOOD_NAMES + BAD_NAMES)


def new_name(chance):
    return chance.choice(GOOD_NAMES) if chance.randrange(5) else chance.choice(BAD_NAMES)


def some_number(chance, high):
    """Mostly a number up to high, now and then one that is none or out of all bounds."""
    return chance.randint(0, max(0, high)) if chance.randrange(12) else chance.choice(ODD_NUMBERS)


def some_deed(chance, hall):
    """A deed that may be done or may be refused."""
    # Few are cleared, and an empty hall is mostly laid a road in, so that most deeds meet roads.
    kind = chance.choice(KINDS[2:] * 3 + ["mate"] * 6 + KINDS[:2]) if len(hall) or not chance.randrange(8) else "lay"
    name = new_name(chance) if kind == "lay" else some_name(chance, hall)
    length = hall.road(name).length() if name in hall.names() else 5
    if kind == "lay":
        return (kind, name, some_number(chance, 12) if chance.randrange(3) else 10 ** 18 - chance.randint(0, 20))
    if kind == "copy":
        return (kind, name, new_name(chance))
    if kind == "behind":
        return (kind, name, some_name(chance, hall))
    if kind == "mate":
        many = max(1, some_number(chance, min(length, 6)))
        one, other = some_number(chance, length - many), some_number(chance, length - many)
        return (kind, name, one, other, many, chance.choice([0, 0, 0, 0, 1, 1, 1, 1, 1, 2, -1, True]))
    if kind == "strike":
        return (kind, name, some_number(chance, 4))
    if kind == "grow":
        return (kind, name, some_number(chance, 3))
    if kind == "trim":
        return (kind, name, some_number(chance, length) if length < 40 else length - some_number(chance, 3))
    if kind == "swell":
        return (kind, name, some_number(chance, 3))
    return (kind, name)
