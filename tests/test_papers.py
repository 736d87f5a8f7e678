"""Papers of kin and of none, and what the judge tells of them and of spoilt ones."""

import random
import unittest

from farmates.errors import BadMating, BadNumber, BadPlace, Full
from farmates.foldings import Folding
from farmates.fronts import judge
from farmates.papers import judge_kin, kin_paper
from farmates.stretches import FAR, MOST
from tests.plain import families, plain_trail
from tests.rows import wild_row
from tests.samples import far_roads, some_roads

LENGTH = 20
MATINGS = [(1, 4, 16, 0), (0, 0, 3, 1), (5, 8, 3, 0)]
ROW = [("merge", 0, 2), ("fold", 0, 19), ("fold", 0, 4), ("halve", 1), ("bare", 3), ("fold", 1, 2), ("bare", 0)]


class PapersTest(unittest.TestCase):
    def test_short_roads(self):
        for length, matings in some_roads(51, 60, 9, 5):
            homes = families(length, matings)
            for one in range(length):
                for other in range(length):
                    paper = kin_paper(length, matings, one, other)
                    moves, first, second = paper
                    self.assertIs(type(paper), tuple)
                    self.assertIsNone(judge(length, matings, moves))
                    self.assertEqual(first, plain_trail(length, matings, moves, one))
                    self.assertEqual(second, plain_trail(length, matings, moves, other))
                    self.assertIs(judge_kin(length, matings, one, other, paper), homes[one] == homes[other])

    def test_far_roads(self):
        chance = random.Random(52)
        for length, matings in far_roads(53, 4):
            folding = Folding(length, matings)
            for one in (0, length - 1, chance.randrange(length)):
                for other in (folding.least(one), chance.randrange(length)):
                    paper = kin_paper(length, matings, one, other)
                    kin = folding.least(one) == folding.least(other)
                    self.assertIs(judge_kin(length, matings, one, other, paper), kin)

    def test_any_right_row_makes_a_paper(self):
        chance = random.Random(54)
        for length, matings in some_roads(55, 40, 9, 5):
            row = wild_row(chance, length, matings)
            one, other = chance.randrange(length), chance.randrange(length)
            paper = (row, plain_trail(length, matings, row, one), plain_trail(length, matings, row, other))
            homes = families(length, matings)
            self.assertIs(judge_kin(length, matings, one, other, paper), homes[one] == homes[other])

    def test_known_ones(self):
        self.assertIs(judge_kin(LENGTH, MATINGS, 17, 0, (ROW, [(2, 2), (5, 0)], [])), True)
        self.assertIs(judge_kin(LENGTH, MATINGS, 17, 19, (ROW, [(2, 2), (5, 0)], [(1, 1)])), False)
        self.assertIs(judge_kin(LENGTH, MATINGS, 0, 0, (ROW, [], [])), True)
        self.assertIs(judge_kin(LENGTH, MATINGS, 0, 1, (ROW, [], [])), False)

    def test_tuples_may_be_handed_in(self):
        paper = (tuple(ROW), ((2, 2), (5, 0)), ())
        self.assertIs(judge_kin(LENGTH, tuple(MATINGS), 17, 0, paper), True)

    def test_by_keywords(self):
        paper = kin_paper(length=LENGTH, matings=MATINGS, one=17, other=0)
        self.assertIs(judge_kin(length=LENGTH, matings=MATINGS, one=17, other=0, paper=paper), True)

    def test_told_lists_are_new(self):
        paper = kin_paper(LENGTH, MATINGS, 17, 19)
        kept = tuple(list(part) for part in paper)
        for part in paper:
            part.clear()
        self.assertEqual(kin_paper(LENGTH, MATINGS, 17, 19), kept)

    def test_nothing_handed_in_is_changed(self):
        matings, paper = list(MATINGS), (list(ROW), [(2, 2), (5, 0)], [])
        judge_kin(LENGTH, matings, 17, 0, paper)
        self.assertEqual((matings, paper), (MATINGS, (ROW, [(2, 2), (5, 0)], [])))


class SpoiltPapersTest(unittest.TestCase):
    def spoilt(self, one, other, *paper):
        with self.subTest(paper=paper):
            self.assertIsNone(judge_kin(LENGTH, MATINGS, one, other, paper))

    def test_moves(self):
        first, second = [(2, 2), (5, 0)], []
        self.assertIs(judge_kin(LENGTH, MATINGS, 17, 0, (ROW, first, second)), True)
        for at in range(len(ROW)):
            self.spoilt(17, 0, ROW[:at] + ROW[at + 1:], first, second)
            self.spoilt(17, 0, ROW[:at], first, second)
            self.spoilt(17, 0, ROW[:at] + [("idle", 9)] + ROW[at:], first, second)
        for at in (1, 2, 4, 5):
            self.spoilt(17, 0, ROW[:at] + [ROW[at + 1], ROW[at]] + ROW[at + 2:], first, second)
        self.spoilt(17, 0, ROW + [("bare", 0)], first, second)
        self.spoilt(17, 0, [], first, second)
        self.spoilt(17, 0, ROW[:-1] + [("bare", False)], first, second)

    def test_a_right_row_with_the_trail_of_another(self):
        # Without the fold of the last place alone the row is right, but the numbers are others.
        row = ROW[:1] + ROW[2:]
        self.assertIsNone(judge(LENGTH, MATINGS, row))
        self.spoilt(17, 0, row, [(2, 2), (5, 0)], [])
        self.assertIs(judge_kin(LENGTH, MATINGS, 17, 0, (row, [(1, 2), (4, 0)], [])), True)

    def test_trails_cut_or_longer(self):
        for trail in ([], [(2, 2)], [(5, 0)], [(2, 2), (5, 0), (6, 0)], [(2, 2), (2, 2), (5, 0)],
                      [(0, 17), (2, 2), (5, 0)], [(5, 0), (2, 2)]):
            self.spoilt(17, 1, ROW, trail, [])
            self.spoilt(1, 17, ROW, [], trail)

    def test_trails_of_the_other_place(self):
        self.assertIs(judge_kin(LENGTH, MATINGS, 17, 19, (ROW, [(2, 2), (5, 0)], [(1, 1)])), False)
        self.spoilt(17, 19, ROW, [(1, 1)], [(2, 2), (5, 0)])
        self.spoilt(17, 19, ROW, [(2, 2), (5, 0)], [(2, 2), (5, 0)])
        self.spoilt(17, 19, ROW, [(1, 1)], [(1, 1)])
        self.spoilt(19, 17, ROW, [(2, 2), (5, 0)], [(1, 1)])

    def test_numbers_one_more_or_less(self):
        for at in range(2):
            for by in (1, -1):
                for side in range(2):
                    trail = [[2, 2], [5, 0]]
                    trail[at][side] += by
                    self.spoilt(17, 0, ROW, [tuple(pair) for pair in trail], [])

    def test_truths(self):
        self.assertIs(judge_kin(LENGTH, MATINGS, 19, 1, (ROW, [(1, 1)], [])), True)
        for pair in [(1, True), (True, 1), (True, True)]:
            self.spoilt(19, 1, ROW, [pair], [])
            self.spoilt(1, 19, ROW, [], [pair])
        self.spoilt(17, 0, ROW, [(2, 2), (5, False)], [])


class RefusedPapersTest(unittest.TestCase):
    def doors(self):
        return [kin_paper, lambda length, matings, one, other: judge_kin(length, matings, one, other, ([], [], []))]

    def test_bad_places_in_order(self):
        for door in self.doors():
            for wrong in (-1, LENGTH, FAR, True, False):
                for one, other in [(wrong, 0), (0, wrong), (wrong, 99)]:
                    with self.subTest(one=one, other=other), self.assertRaises(BadPlace) as caught:
                        door(LENGTH, MATINGS, one, other)
                    self.assertIs(caught.exception.place, wrong)

    def test_the_road_ahead_of_places(self):
        for door in self.doors():
            with self.assertRaises(BadNumber):
                door(FAR + 1, MATINGS, -1, -1)
            with self.assertRaises(BadMating):
                door(19, MATINGS, -1, -1)
            with self.assertRaises(Full):
                door(20, MATINGS * MOST, -1, -1)

    def test_a_road_of_no_place(self):
        for door in self.doors():
            with self.assertRaises(BadPlace) as caught:
                door(0, [], 0, 0)
            self.assertEqual(caught.exception.place, 0)


if __name__ == "__main__":
    unittest.main()
