"""What the document tells of boards and loops, done by going through corners and crossings one by one.

Nothing here uses the package: it is what the package is held against.
"""


def name_of(side):
    return side.replace("-", "")


def stands(cells):
    """By each name the list of (cell, k) where it stands."""
    told = {}
    for at, cell in enumerate(cells):
        for k, side in enumerate(cell):
            told.setdefault(name_of(side), []).append((at, k))
    return told


def groups(points, joints):
    """The points parted into sets, so that both ends of each joint are in one."""
    parted = [{point} for point in points]
    for one, other in joints:
        holding = [group for group in parted if one in group or other in group]
        parted = [group for group in parted if group not in holding] + [set().union(*holding)]
    return parted


def corners(cells):
    """How many points the corners come to, the ends of sides joined one by one."""
    points = [(at, k) for at in range(len(cells)) for k in range(3)]
    joints = []
    for name, where in stands(cells).items():
        ends = []
        for at, k in where:
            # Going round the cell, side k comes from the corner ahead of it to corner k.
            way = [(at, (k - 1) % 3), (at, k)]
            ends.append(way[::-1] if cells[at][k].startswith("-") else way)
        if len(ends) == 2:
            joints += list(zip(*ends))
    return len(groups(points, joints))


def joined(cells, counts):
    """By cell and corner the list of pairs of crossings (name, number) that are joined, counted from the corner."""
    told = []
    for cell in cells:
        for k in range(3):
            ways = []
            for side in (cell[k], cell[(k + 1) % 3]):
                way = [(name_of(side), number) for number in range(counts[name_of(side)])]
                ways.append(way[::-1] if side.startswith("-") else way)
            third = counts[name_of(cell[(k + 2) % 3])]
            many = (len(ways[0]) + len(ways[1]) - third) // 2
            told.append(list(zip(ways[0][::-1][:many], ways[1][:many])))
    return told


def starts(counts):
    """The place of each side's first crossing on the road."""
    told, at = {}, 0
    for name in sorted(counts):
        told[name] = at
        at += counts[name]
    return told


def road_pairs(cells, counts):
    """By mating the rising list of pairs of places that it must lead to one another."""
    start = starts(counts)
    told = []
    for pairs in joined(cells, counts):
        if pairs:
            told.append(sorted((start[one[0]] + one[1], start[other[0]] + other[1]) for one, other in pairs))
    return told


def curves(cells, counts):
    """(loops, arcs), by following the crossings."""
    points = [(name, number) for name in counts for number in range(counts[name])]
    joints = [pair for pairs in joined(cells, counts) for pair in pairs]
    ends = {point: 0 for point in points}
    for one, other in joints:
        ends[one] += 1
        ends[other] += 1
    where = stands(cells)
    # Each crossing is joined once in each cell in which its side stands.
    assert all(ends[point] == len(where[point[0]]) for point in points)
    parted = groups(points, joints)
    arcs = [group for group in parted if any(ends[point] == 1 for point in group)]
    assert all(sum(ends[point] == 1 for point in group) == 2 for group in arcs)
    return len(parted) - len(arcs), len(arcs)


def let_by(cells, counts):
    """The number of the first cell that doesn't let the numbers by, or None."""
    for at, cell in enumerate(cells):
        low, middle, high = sorted(counts[name_of(side)] for side in cell)
        if (low + middle + high) % 2 or high > low + middle:
            return at
    return None


def flip(cells, counts, side):
    """The cells and the numbers with this side flipped."""
    (first, k), (second, j) = stands(cells)[side]
    e, p, q = [cells[first][(k + step) % 3] for step in range(3)]
    other = list(cells[second])
    if other[j] == e:
        other = [against(told) for told in other[::-1]]
    j = other.index(against(e))
    minus, r, s = [other[(j + step) % 3] for step in range(3)]
    told = list(cells)
    told[first], told[second] = (e, s, p), (minus, q, r)
    number = {told: counts[name_of(told)] for told in (e, p, q, r, s)}
    return told, {**counts, side: max(number[p] + number[r], number[q] + number[s]) - number[e]}


def against(side):
    return side[1:] if side.startswith("-") else "-" + side


def can_flip(cells, side):
    where = stands(cells)[side]
    return len(where) == 2 and where[0][0] != where[1][0]
