"""Roads for tests, the same ones in each run: short ones, and far ones whose families are known or hang together."""

import math
import random

from farmates.roads import Road
from farmates.stretches import FAR, MOST, swelled


def road_of(length, matings):
    """A road with these matings, by numbers from 1 on."""
    road = Road(length)
    for one, other, many, turned in matings:
        road.mate(one, other, many, turned=turned)
    return road


def some_mating(chance, length):
    """Any mating of a road; short stretches and long ones are drawn as often."""
    many = chance.randint(1, length)
    one, other = chance.randint(0, length - many), chance.randint(0, length - many)
    return (one, other, many, chance.randint(0, 1))


def some_roads(seed, many, longest, most, least=1):
    """Pairs (length, matings) of short roads."""
    chance = random.Random(seed)
    roads = []
    for at in range(many):
        length = chance.randint(least, longest)
        told = chance.randint(0, most) if length else 0
        roads.append((length, [some_mating(chance, length) for k in range(told)]))
    return roads


def any_scale(chance, low, high):
    """A number that has few figures as often as many."""
    return max(low, min(high, round(math.exp(chance.uniform(math.log(low), math.log(high))))))


def swelled_road(chance):
    """A short road swelled: (short length, short matings, times, length, matings)."""
    short = chance.randint(1, 14)
    matings = [some_mating(chance, short) for k in range(chance.randint(0, 7))]
    times = chance.choice([10 ** 16, FAR // short, any_scale(chance, 1, 10 ** 16), 2 ** 53 - 1])
    return short, matings, times, short * times, [swelled(mating, times) for mating in matings]


def block_road(chance):
    """A road of blocks of unlike lengths: (lengths, matings of blocks, length, matings).

    A mating of blocks lays a run of them upon another one with the same lengths, so the families of the road are
    told by those of the blocks.
    """
    kinds = [any_scale(chance, 1, 10 ** 16) for k in range(chance.randint(1, 4))]
    lengths = [chance.choice(kinds) for k in range(chance.randint(2, 14))]
    starts = [sum(lengths[:k]) for k in range(len(lengths) + 1)]
    short, far = [], []
    for k in range(200):
        one, other, many, turned = some_mating(chance, len(lengths))
        run, goal = lengths[one:one + many], lengths[other:other + many]
        if (goal[::-1] if turned else goal) == run and len(short) < 12:
            short.append((one, other, many, turned))
            far.append((starts[one], starts[other], sum(run), turned))
    return lengths, short, starts[-1], far


def exchange(chance, most=MOST):
    """Pieces of unlike lengths laid upon the same ones in another order; nothing is merged for long."""
    pieces = [chance.randint(1, 4 * 10 ** 16) for k in range(chance.randint(2, most))]
    order = list(range(len(pieces)))
    chance.shuffle(order)
    turns = chance.choice([0, 0.1, 0.5])
    matings, at = [], 0
    for k in order:
        matings.append((sum(pieces[:k]), at, pieces[k], int(chance.random() < turns)))
        at += pieces[k]
    return at, matings


def drawn_anywhere(chance, many):
    """Matings at any places of the longest road, nearly all of which overlap much."""
    return FAR, [some_mating(chance, FAR) for k in range(many)]


def of_all_scales(chance, many):
    """Matings of few places and of many, at any places of the longest road."""
    matings = []
    for k in range(many):
        size = any_scale(chance, 1, FAR)
        one, other = chance.randint(0, FAR - size), chance.randint(0, FAR - size)
        matings.append((one, other, size, chance.randint(0, 1)))
    return FAR, matings


def nearly_whole(chance, many):
    """Matings that leave out only few places of the longest road."""
    matings = []
    for k in range(many):
        one, other = any_scale(chance, 1, 10 ** 17), any_scale(chance, 1, 10 ** 17)
        matings.append((one, other, FAR - max(one, other), chance.randint(0, 1)))
    return FAR, matings


def mirrors(chance, many):
    """Mirrors of parts, and now and then of the whole road."""
    matings = []
    for k in range(many):
        size = any_scale(chance, 1, FAR)
        at = chance.randint(0, FAR - size)
        matings.append((at, at, size, 1))
    if chance.random() < 0.5:
        matings[chance.randrange(many)] = (0, 0, FAR, 1)
    return FAR, matings


def row_of_sums():
    """Numbers up to FAR, each the sum of the two ahead of it."""
    row = [1, 2]
    while row[-1] + row[-2] <= FAR:
        row.append(row[-1] + row[-2])
    return row


def steps_of_sums(chance, many):
    """Straight matings by steps that are neighbours in the row of sums, on a road that is hardly longer than both."""
    row = row_of_sums()
    at = chance.randint(many, len(row) - 2)
    steps = row[at - many:at]
    length = steps[-1] + chance.choice(steps) + chance.randint(-2, 2)
    return length, [(0, step, length - step, 0) for step in steps if step < length]


def far_roads(seed, many):
    """Far roads of all these kinds."""
    chance = random.Random(seed)
    roads = []
    for at in range(many):
        roads.append(swelled_road(chance)[3:])
        roads.append(block_road(chance)[2:])
        roads.append(exchange(chance))
        roads.append(drawn_anywhere(chance, chance.randint(1, MOST)))
        roads.append(of_all_scales(chance, chance.randint(1, MOST)))
        roads.append(nearly_whole(chance, chance.randint(1, MOST)))
        roads.append(mirrors(chance, chance.randint(1, MOST)))
        roads.append(steps_of_sums(chance, chance.randint(2, 8)))
    return roads
