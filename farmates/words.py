"""Words with letters that must be alike, told as roads."""

from farmates.errors import BadNumber
from farmates.foldings import Folding
from farmates.fronts import need_road
from farmates.stretches import need_from, need_stretch, need_within

LONGEST = 300


def copy_of(one, other, many):
    """The mating of a stretch that is like another one."""
    need_from(0, one)
    need_from(0, other)
    need_from(1, many)
    return (one, other, many, 0)


def mirror(at, many):
    """The mating of a stretch that reads the same from behind."""
    need_from(0, at)
    need_from(1, many)
    return (at, at, many, 1)


def period(at, many, step):
    """The mating of a stretch whose letters come again by a step."""
    need_from(0, at)
    need_from(1, many)
    need_within(1, many - 1, step)
    return (at, at + step, many - step, 0)


def most_letters(length, matings):
    """How many letters a word with these likenesses can have at the most."""
    return Folding(length, matings).count()


def least_word(length, matings):
    """The list of all places' letters, each the rank of its family."""
    need_road(length, matings)
    if length > LONGEST:
        raise BadNumber(length)
    folding = Folding(length, matings)
    return [folding.rank(place) for place in range(length)]


def spelled(road, at, many):
    """The list of the letters of a stretch of the very road."""
    need_stretch(road.length(), at, many)
    if many > LONGEST:
        raise BadNumber(many)
    return [road.rank(place) for place in range(at, at + many)]


def is_period(road, step):
    """Whether each place is kin to the one a step on."""
    need_from(1, step)
    left = road.length() - step
    return left < 1 or road.implies(0, step, left)
