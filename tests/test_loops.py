"""Loops on boards: which numbers are let, their road, how many curves there are, flips and times."""

import random
import unittest

from farmates.boards import DEEP, Board, Loops
from farmates.errors import BadCounts, BadNumber, BadSide, NoSide, TooMuch
from farmates.roads import Road
from tests import plain_boards as plain
from tests.board_samples import (
    ALONE, BALL, BAND, BOTTLE, CONE, FOUR, SMALL, TORUS, all_counts, great_counts, some_boards, some_cells, some_counts,
)
from tests.plain import pairs


def stand(loops):
    """All that loops tell of what they are, in lists and dicts of the test's own."""
    return (loops.board_now().cells(), list(loops.counts().items()))


def told(loops):
    return (loops.loops(), loops.arcs())


def small_ones(seed, many, most):
    """Pairs (cells, numbers that are let)."""
    chance = random.Random(seed)
    rows = []
    for cells in some_boards(seed, many):
        rows.append((cells, some_counts(chance, Board(cells).sides(), cells, most)))
    return rows


class LoopsCase(unittest.TestCase):
    def refused(self, error, deed, **fields):
        with self.assertRaises(error) as caught:
            deed()
        self.assertIs(type(caught.exception), error)
        self.assertEqual(caught.exception.word, error.__name__)
        for name in fields:
            worth = getattr(caught.exception, name)
            self.assertEqual((worth, type(worth)), (fields[name], type(fields[name])))


class NumbersTest(LoopsCase):
    def test_what_is_let(self):
        let = refused = 0
        for cells in (BALL, TORUS, BOTTLE, CONE, BAND, ALONE, BAND + [("b", "c", "-d")]):
            board = Board(cells)
            for counts in all_counts(board.sides(), 4):
                expected = plain.let_by(cells, counts)
                if expected is None:
                    self.assertEqual(Loops(board, counts).counts(), counts)
                    let += 1
                else:
                    self.refused(BadCounts, lambda: Loops(board, counts), cell=expected)
                    refused += 1
        self.assertGreater(min(let, refused), 100)

    def test_by_hand(self):
        board = Board([("a", "b", "c"), ("-c", "d", "e")])
        good = {"a": 1, "b": 2, "c": 3, "d": 4, "e": 1}
        self.assertEqual(Loops(board, good).counts(), good)
        self.refused(BadCounts, lambda: Loops(board, {**good, "a": 2}), cell=0)
        self.refused(BadCounts, lambda: Loops(board, {**good, "b": 0}), cell=0)
        self.refused(BadCounts, lambda: Loops(board, {**good, "d": 5}), cell=1)
        self.refused(BadCounts, lambda: Loops(board, {**good, "e": 9}), cell=1)
        self.refused(BadCounts, lambda: Loops(board, {**good, "e": 2, "a": 2}), cell=0)
        # A side that stands twice in a cell counts twice.
        Loops(Board(CONE), {"a": 1, "b": 2})
        self.refused(BadCounts, lambda: Loops(Board(CONE), {"a": 1, "b": 4}), cell=0)
        self.refused(BadCounts, lambda: Loops(Board(CONE), {"a": 1, "b": 1}), cell=0)

    def test_least_name_lacking_or_strange(self):
        board = Board([("b", "d", "f")])
        good = {"f": 2, "b": 2, "d": 2}
        for drop, add, expected in [
            (["b"], [], "b"), (["d"], [], "d"), (["f"], [], "f"), (["f", "d"], [], "d"), (["b", "d", "f"], [], "b"),
            ([], ["a"], "a"), ([], ["e"], "e"), ([], ["g", "c"], "c"), (["b"], ["a"], "a"), (["b"], ["c"], "b"),
            (["f"], ["g"], "f"), ([], ["-b"], "-b"), ([], [""], ""), ([], ["B"], "B"), (["d"], ["bb"], "bb"),
        ]:
            counts = {name: good[name] for name in good if name not in drop}
            counts.update({name: 2 for name in add})
            self.refused(NoSide, lambda: Loops(board, counts), side=expected)

    def test_least_name_out_of_bounds(self):
        board = Board([("b", "d", "f")])
        for bad in (-1, DEEP + 1, 10 ** 29, -10 ** 29, True, False):
            self.refused(BadNumber, lambda: Loops(board, {"f": bad, "b": 2, "d": 2}), number=bad)
            self.refused(BadNumber, lambda: Loops(board, {"f": -7, "d": bad, "b": 2}), number=bad)
            self.refused(BadNumber, lambda: Loops(board, {"d": True, "f": -7, "b": bad}), number=bad)

    def test_no_side_then_bad_number_then_bad_counts(self):
        board = Board([("b", "d", "f")])
        self.refused(NoSide, lambda: Loops(board, {"b": -1, "d": True, "z": 2}), side="f")
        self.refused(NoSide, lambda: Loops(board, {"b": -1, "d": True, "f": 2, "z": 2}), side="z")
        self.refused(BadNumber, lambda: Loops(board, {"b": 9, "d": 2, "f": True}), number=True)
        self.refused(BadNumber, lambda: Loops(board, {"b": 9, "d": 2, "f": DEEP + 1}), number=DEEP + 1)
        self.refused(BadCounts, lambda: Loops(board, {"b": 9, "d": 2, "f": DEEP}), cell=0)

    def test_bounds_are_let(self):
        board = Board([("b", "d", "f")])
        self.assertEqual(DEEP, 10 ** 15)
        for counts in ({"b": 0, "d": 0, "f": 0}, {"b": DEEP, "d": DEEP, "f": DEEP}, {"b": 0, "d": DEEP, "f": DEEP}):
            self.assertEqual(Loops(board, counts).counts(), counts)

    def test_names_rise_in_what_is_told(self):
        loops = Loops(Board([("f", "-b", "ba")]), {"f": 2, "ba": 4, "b": 4})
        self.assertEqual(list(loops.counts().items()), [("b", 4), ("ba", 4), ("f", 2)])
        loops = Loops(Board([("d", "b", "c"), ("-c", "a", "e")]), {"e": 2, "d": 2, "c": 2, "b": 2, "a": 2})
        loops.flip("c")
        self.assertEqual(list(loops.counts()), ["a", "b", "c", "d", "e"])
        self.assertEqual(list(loops.times(3).counts()), ["a", "b", "c", "d", "e"])

    def test_dicts_handed_in_and_told(self):
        board = Board(FOUR)
        counts = {name: 2 for name in "abcdef"}
        loops = Loops(board, counts)
        counts["a"] = 4
        del counts["b"]
        self.assertEqual(loops.counts(), {name: 2 for name in "abcdef"})
        heard = loops.counts()
        heard["c"] = 9
        heard.clear()
        self.assertEqual(loops.counts(), {name: 2 for name in "abcdef"})
        kept = loops.counts()
        loops.flip("a")
        self.assertEqual(kept, {name: 2 for name in "abcdef"})
        self.assertNotEqual(loops.board_now(), board)

    def test_a_refused_dict_stays(self):
        counts = {"x": 1, "z": 1, "y": 1}
        self.refused(BadCounts, lambda: Loops(Board(ALONE), counts), cell=0)
        self.assertEqual(list(counts.items()), [("x", 1), ("z", 1), ("y", 1)])

    def test_board_now(self):
        board = Board(FOUR)
        loops = Loops(board, {name: 2 for name in "abcdef"})
        self.assertIsInstance(loops.board_now(), Board)
        self.assertEqual(loops.board_now(), board)
        loops.flip("d")
        self.assertEqual(loops.board_now(), board.flipped("d"))
        self.assertEqual(board.cells(), FOUR)


class RoadTest(LoopsCase):
    def test_pair_by_pair(self):
        seen = 0
        for cells, counts in small_ones(111, 160, 9):
            loops = Loops(Board(cells), counts)
            road = loops.road()
            self.assertIsInstance(road, Road)
            self.assertEqual(road.length(), sum(counts.values()))
            heard = [(number, pairs(mating)) for number, mating in road.matings()]
            self.assertEqual(heard, list(enumerate(plain.road_pairs(cells, counts), 1)), (cells, counts))
            seen += len(heard)
            start = plain.starts(counts)
            self.assertEqual({name: loops.start(name) for name in counts}, start)
        self.assertGreater(seen, 1000)

    def test_turned_where_both_are_gone_along_alike(self):
        for signs, expected in [(("", ""), 1), (("-", "-"), 1), (("", "-"), 0), (("-", ""), 0)]:
            loops = Loops(Board([(signs[0] + "a", signs[1] + "b", "c")]), {"a": 3, "b": 4, "c": 1})
            self.assertEqual(loops.road().matings()[0][1][2:], (3, expected))

    def test_by_hand(self):
        loops = Loops(Board([("a", "b", "c")]), {"a": 3, "b": 4, "c": 5})
        # One is joined at corner 0, the last of a with the first of b; three at corner 1; two at corner 2.
        self.assertEqual(loops.road().matings(), [(1, (2, 3, 1, 1)), (2, (4, 7, 3, 1)), (3, (10, 0, 2, 1))])
        loops = Loops(Board([("-a", "b", "-c")]), {"a": 3, "b": 4, "c": 5})
        self.assertEqual(loops.road().matings(), [(1, (0, 3, 1, 0)), (2, (4, 9, 3, 0)), (3, (7, 1, 2, 1))])
        self.assertEqual([loops.start(name) for name in "abc"], [0, 3, 7])

    def test_those_of_no_crossing_are_left_out(self):
        loops = Loops(Board([("a", "b", "c")]), {"a": 2, "b": 0, "c": 2})
        self.assertEqual(loops.road().matings(), [(1, (2, 0, 2, 1))])
        self.assertEqual([loops.start(name) for name in "abc"], [0, 2, 2])
        loops = Loops(Board(FOUR), {name: 0 for name in "abcdef"})
        self.assertEqual((loops.road(), [loops.start(name) for name in "abcdef"]), (Road(), [0] * 6))

    def test_most_matings(self):
        chance = random.Random(112)
        for rim in (0, 0, 30, 100):
            cells = some_cells(chance, 8, rim)
            loops = Loops(Board(cells), {name: DEEP for name in Board(cells).sides()})
            road = loops.road()
            self.assertEqual(len(road.matings()), 24)
            self.assertEqual(road.length(), DEEP * len(loops.counts()))
            for at, name in enumerate(sorted(loops.counts())):
                self.assertEqual(loops.start(name), at * DEEP)
            self.assertEqual(road.count(), loops.curves())

    def test_lengths_and_starts_on_great_ones(self):
        chance = random.Random(113)
        for cells in some_boards(114, 40):
            counts = great_counts(chance, Board(cells).sides(), chance.randint(10 ** 10, DEEP // 2), DEEP)
            loops = Loops(Board(cells), counts)
            self.assertEqual(loops.road().length(), sum(counts.values()))
            self.assertEqual({name: loops.start(name) for name in counts}, plain.starts(counts))
            self.assertEqual(loops.road().count(), loops.curves())

    def test_roads_told_are_new(self):
        loops = Loops(Board(TORUS), {"a": 2, "b": 2, "c": 2})
        road = loops.road()
        road.trim(1)
        road.count()
        self.assertEqual((loops.road().length(), loops.road().keeps()), (6, False))
        kept = loops.road()
        loops.flip("a")
        self.assertEqual((kept.length(), len(kept.matings())), (6, 6))

    def test_no_side(self):
        loops = Loops(Board(TORUS), {"a": 2, "b": 2, "c": 2})
        for side in ("d", "-a", "", "A", "aa", "0"):
            self.refused(NoSide, lambda: loops.start(side), side=side)


class CurvesTest(LoopsCase):
    def check(self, cells, counts):
        loops = Loops(Board(cells), counts)
        expected = plain.curves(cells, counts)
        self.assertEqual(told(loops), expected, (cells, counts))
        self.assertEqual(loops.curves(), sum(expected))
        return expected

    def test_against_following_the_crossings(self):
        seen = set()
        for cells, counts in small_ones(121, 160, 8):
            seen.add(self.check(cells, counts))
        self.assertGreater(len(seen), 30)

    def test_all_small_numbers(self):
        for cells in (BALL, TORUS, BOTTLE, CONE, BAND, ALONE):
            for counts in all_counts(Board(cells).sides(), 5):
                if plain.let_by(cells, counts) is None:
                    self.check(cells, counts)

    def test_no_crossing(self):
        for cells in SMALL:
            loops = Loops(Board(cells), {name: 0 for name in Board(cells).sides()})
            self.assertEqual((loops.curves(), loops.loops(), loops.arcs()), (0, 0, 0))

    def test_by_hand(self):
        # One that goes round a torus once each way, and one that is turned: it meets its only crossing again.
        self.assertEqual(told(Loops(Board(TORUS), {"a": 1, "b": 1, "c": 0})), (1, 0))
        self.assertEqual(told(Loops(Board(TORUS), {"a": 4, "b": 6, "c": 10})), (2, 0))
        self.assertEqual(told(Loops(Board(BAND), {"a": 1, "b": 0})), (1, 0))
        self.assertEqual(told(Loops(Board(BAND), {"a": 5, "b": 0})), (3, 0))
        self.assertEqual(told(Loops(Board(CONE), {"a": 5, "b": 0})), (5, 0))
        self.assertEqual(told(Loops(Board(CONE), {"a": 5, "b": 10})), (0, 5))
        self.assertEqual(told(Loops(Board(ALONE), {"x": 3, "y": 4, "z": 5})), (0, 6))

    def test_every_side_crossed_twice_k(self):
        for cells in some_boards(123, 40):
            board = Board(cells)
            for k in (1, 3, 10 ** 9, DEEP // 2):
                loops = Loops(board, {name: 2 * k for name in board.sides()})
                arcs = k * len(board.rim())
                self.assertEqual(loops.arcs(), arcs)
                # Round each inner point go k loops; a point of the rim is one at which a side of the rim ends.
                self.assertEqual(loops.loops(), k * (board.corners() - self.rim_points(cells)), cells)

    def rim_points(self, cells):
        """How many points are ends of sides of the rim."""
        where = plain.stands(cells)
        points = [(at, k) for at in range(len(cells)) for k in range(3)]
        joints = []
        for name in where:
            ends = []
            for at, k in where[name]:
                way = [(at, (k - 1) % 3), (at, k)]
                ends.append(way[::-1] if cells[at][k].startswith("-") else way)
            joints += list(zip(ends[0], ends[-1]))
        outer = {end for name in where if len(where[name]) == 1 for at, k in where[name] for end in [(at, k), (at, (k - 1) % 3)]}
        return sum(1 for group in plain.groups(points, joints) if group & outer)

    def test_as_many_times_as_many(self):
        # k of each curve side by side, but one that is turned about itself makes the half of k, rounded up.
        for cells, counts in small_ones(124, 60, 6):
            loops = Loops(Board(cells), counts)
            about = loops.road().turned_about()
            for k in (2, 5, 10 ** 13):
                self.assertEqual(loops.times(k).curves(), k * (loops.curves() - about) + (k + 1) // 2 * about)

    def test_asked_again(self):
        loops = Loops(Board(TORUS), {"a": 4, "b": 6, "c": 10})
        ahead = stand(loops)
        for again in range(3):
            self.assertEqual((loops.curves(), loops.loops(), loops.arcs()), (2, 2, 0))
        self.assertEqual(stand(loops), ahead)


class FlipTest(LoopsCase):
    def test_each_side(self):
        for cells, counts in small_ones(131, 100, 7):
            for side in counts:
                loops = Loops(Board(cells), counts)
                if not plain.can_flip(cells, side):
                    self.refused(BadSide, lambda: loops.flip(side), side=side)
                    self.assertEqual((loops.board_now().cells(), loops.counts()), (cells, counts))
                    continue
                expected = told(loops)
                self.assertIsNone(loops.flip(side))
                self.assertEqual((loops.board_now().cells(), loops.counts()), plain.flip(cells, counts, side))
                self.assertEqual(told(loops), expected)
                self.assertEqual(plain.curves(loops.board_now().cells(), loops.counts()), expected)

    def test_the_greater_of_both_sums(self):
        for p, q, r, s, e, expected in [(3, 4, 5, 6, 5, 5), (6, 3, 6, 3, 5, 7), (1, 2, 1, 2, 3, 1), (2, 2, 2, 2, 0, 4),
                                        (0, 2, 0, 2, 2, 2), (2, 0, 2, 0, 2, 2)]:
            loops = Loops(Board([("e", "p", "q"), ("-e", "r", "s")]), {"p": p, "q": q, "r": r, "s": s, "e": e})
            loops.flip("e")
            self.assertEqual(loops.counts(), {"e": expected, "p": p, "q": q, "r": r, "s": s})
            loops.flip("e")
            self.assertEqual(loops.counts(), {"e": e, "p": p, "q": q, "r": r, "s": s})

    def test_in_a_row_and_back(self):
        chance = random.Random(132)
        for cells, counts in small_ones(133, 60, 5):
            loops = Loops(Board(cells), counts)
            expected, corners = told(loops), Board(cells).corners()
            may = [side for side in counts if plain.can_flip(cells, side)]
            row, states = [], [(cells, counts)]
            for at in range(12 if may else 0):
                side = chance.choice([name for name in counts if plain.can_flip(states[-1][0], name)])
                loops.flip(side)
                row.append(side)
                states.append(plain.flip(*states[-1], side))
                self.assertEqual((loops.board_now().cells(), loops.counts()), states[-1])
                self.assertEqual((told(loops), loops.board_now().corners()), (expected, corners))
            for side in reversed(row):
                loops.flip(side)
            self.assertEqual((loops.counts(), told(loops)), (counts, expected))

    def test_great_ones(self):
        # Flips that make the numbers greater and greater, until one would be too great.
        chance = random.Random(134)
        refused = 0
        for cells in [TORUS] + [some_cells(chance, 8, rim) for rim in (0, 0, 0, 0, 20, 20)]:
            loops = Loops(Board(cells), great_counts(chance, Board(cells).sides(), 4, 8))
            expected, last = told(loops), None
            for at in range(400):
                cells, counts = loops.board_now().cells(), loops.counts()
                may = {name: plain.flip(cells, counts, name)[1][name] for name in counts if plain.can_flip(cells, name)}
                side = max([name for name in sorted(may) if name != last], key=lambda name: may[name] - counts[name])
                if may[side] > DEEP:
                    self.refused(TooMuch, lambda: loops.flip(side), number=may[side])
                    self.assertEqual((loops.board_now().cells(), loops.counts()), (cells, counts))
                    refused += 1
                    break
                loops.flip(side)
                last = side
            self.assertEqual(told(loops), expected)
        self.assertGreaterEqual(refused, 4)

    def test_too_much(self):
        board = Board([("e", "p", "q"), ("-e", "r", "s")])
        counts = {"e": DEEP, "p": DEEP, "q": 0, "r": DEEP, "s": 0}
        loops = Loops(board, counts)
        loops.flip("e")
        self.assertEqual(loops.counts()["e"], DEEP)
        loops.flip("e")
        high = Loops(board, {"e": 2, "p": DEEP, "q": DEEP, "r": DEEP, "s": DEEP - 2})
        self.refused(TooMuch, lambda: high.flip("e"), number=2 * DEEP - 2)
        self.assertEqual(stand(high), (board.cells(), [("e", 2), ("p", DEEP), ("q", DEEP), ("r", DEEP), ("s", DEEP - 2)]))
        just = Loops(board, {"e": 0, "p": DEEP // 2, "q": DEEP // 2, "r": DEEP // 2, "s": DEEP // 2})
        just.flip("e")
        self.assertEqual(just.counts()["e"], DEEP)
        above = Loops(board, {"e": 1, "p": DEEP // 2 + 1, "q": DEEP // 2, "r": DEEP // 2 + 1, "s": DEEP // 2})
        self.refused(TooMuch, lambda: above.flip("e"), number=DEEP + 1)
        self.assertEqual(above.board_now(), board)

    def test_no_side_and_bad_side(self):
        board = Board([("e", "p", "q"), ("-e", "r", "r")])
        loops = Loops(board, {"e": 2, "p": DEEP, "q": DEEP, "r": DEEP})
        ahead = stand(loops)
        for side in ("a", "-e", "", "ee"):
            self.refused(NoSide, lambda: loops.flip(side), side=side)
        for side in ("p", "q", "r"):
            self.refused(BadSide, lambda: loops.flip(side), side=side)
        self.assertEqual(stand(loops), ahead)

    def test_the_board_handed_in_stays(self):
        board = Board(TORUS)
        one, other = Loops(board, {"a": 1, "b": 1, "c": 0}), Loops(board, {"a": 1, "b": 1, "c": 0})
        one.flip("c")
        heard = one.board_now()
        one.flip("a")
        self.assertEqual((board.cells(), other.board_now()), (TORUS, board))
        self.assertEqual(heard, board.flipped("c"))
        self.assertEqual(other.counts(), {"a": 1, "b": 1, "c": 0})


class TimesTest(LoopsCase):
    def test_each_number_k_times(self):
        for cells, counts in small_ones(141, 40, 6):
            loops = Loops(Board(cells), counts)
            for k in (0, 1, 2, 7, 10 ** 13):
                more = loops.times(k)
                self.assertIsInstance(more, Loops)
                self.assertEqual(stand(more), (cells, [(name, k * counts[name]) for name in sorted(counts)]))
            self.assertEqual(stand(loops), (cells, [(name, counts[name]) for name in sorted(counts)]))

    def test_up_to_the_most(self):
        loops = Loops(Board(ALONE), {"x": 3, "y": 4, "z": 5})
        most = DEEP // 5
        self.assertEqual(loops.times(most).counts(), {"x": 3 * most, "y": 4 * most, "z": DEEP})
        self.assertEqual(loops.times(most).arcs(), 6 * most)
        self.refused(TooMuch, lambda: loops.times(most + 1), number=DEEP + 5)
        self.refused(TooMuch, lambda: loops.times(10 ** 29), number=5 * 10 ** 29)
        self.assertEqual(loops.counts(), {"x": 3, "y": 4, "z": 5})

    def test_of_no_crossing_any_number(self):
        loops = Loops(Board(ALONE), {"x": 0, "y": 0, "z": 0})
        self.assertEqual(loops.times(10 ** 29).counts(), {"x": 0, "y": 0, "z": 0})

    def test_bad_number(self):
        for counts in ({"x": 3, "y": 4, "z": 5}, {"x": 0, "y": 0, "z": 0}):
            loops = Loops(Board(ALONE), counts)
            for k in (-1, -10 ** 29, True, False):
                self.refused(BadNumber, lambda: loops.times(k), number=k)

    def test_behind_flips_and_on_their_own(self):
        loops = Loops(Board(TORUS), {"a": 1, "b": 1, "c": 0})
        loops.flip("c")
        same = loops.times(1)
        self.assertEqual(stand(same), stand(loops))
        ahead = stand(loops)
        same.flip("a")
        self.assertEqual(stand(loops), ahead)
        none = loops.times(0)
        self.assertEqual((none.board_now(), none.curves()), (loops.board_now(), 0))


class TwinTest(LoopsCase):
    def test_twins_go_their_own_way(self):
        loops = Loops(Board(FOUR), {name: 2 for name in "abcdef"})
        loops.flip("b")
        twin = loops.twin()
        self.assertIsInstance(twin, Loops)
        self.assertEqual(stand(twin), stand(loops))
        ahead = stand(loops)
        twin.flip("a")
        twin.flip("c")
        self.assertEqual(stand(loops), ahead)
        behind = stand(twin)
        loops.flip("d")
        self.assertEqual(stand(twin), behind)
        self.assertEqual((told(twin), told(loops)), ((4, 0), (4, 0)))


if __name__ == "__main__":
    unittest.main()
