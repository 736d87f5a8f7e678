"""Boards and loops for tests, the same ones in each run."""

import itertools
import random

from tests.plain_boards import let_by

NAMES = ["b", "zz", "a", "ab", "q", "aa", "mnop", "c", "ba", "zzzz", "d", "z", "e", "abc", "f", "ef", "g", "h", "i", "j",
         "k", "l", "m", "n"]
# A ball, a torus, a bottle that is turned, a cone, a band that is turned, a cell alone, a ball of four cells.
BALL = [("a", "b", "c"), ("-c", "-b", "-a")]
TORUS = [("a", "b", "c"), ("-a", "-b", "-c")]
BOTTLE = [("a", "b", "c"), ("a", "-b", "-c")]
CONE = [("a", "-a", "b")]
BAND = [("a", "a", "b")]
ALONE = [("x", "y", "z")]
FOUR = [("a", "b", "c"), ("-c", "d", "e"), ("-b", "f", "-d"), ("-a", "-e", "-f")]
SMALL = [BALL, TORUS, BOTTLE, CONE, BAND, ALONE, FOUR]


def some_cells(chance, many, rim):
    """Cells whose sides are joined at chance, straight or against; about so many of hundred stay on the rim."""
    slots = [(at, k) for at in range(many) for k in range(3)]
    chance.shuffle(slots)
    names = chance.sample(NAMES, len(NAMES))
    cells = [[None] * 3 for at in range(many)]
    while slots:
        name = names.pop()
        for at, k in [slots.pop()] + ([slots.pop()] if slots and chance.randrange(100) >= rim else []):
            cells[at][k] = chance.choice(["", "-"]) + name
    return [tuple(cell) for cell in cells]


def some_boards(seed, many):
    """Lists of cells: closed ones, ones with some rim, ones with much."""
    chance = random.Random(seed)
    return SMALL + [some_cells(chance, at % 8 + 1, chance.choice([0, 0, 20, 60])) for at in range(many)]


def some_counts(chance, names, cells, most):
    """Numbers that are let by: drawn, and even ones near to one another where no drawn ones fit."""
    for tries in range(40):
        counts = {name: chance.randint(0, most) for name in names}
        if let_by(cells, counts) is None:
            return counts
    low = chance.randint(0, max(1, most // 4))
    return {name: 2 * chance.randint(low, 2 * low) for name in names}


def all_counts(names, most):
    """All dicts of numbers up to most."""
    return [dict(zip(names, told)) for told in itertools.product(range(most + 1), repeat=len(names))]


def great_counts(chance, names, least, most):
    """Even numbers from least to twice it, which are always let by; at most most."""
    return {name: 2 * chance.randint(least // 2, min(least, most // 2)) for name in names}
