"""Foldings of short roads: what they tell, held against joining the places one by one, and what they refuse."""

import itertools
import random
import unittest

from farmates.errors import BadMating, BadMoves, BadNumber, BadPlace, BadStretch, Full, NoFamily
from farmates.foldings import Folding, fold
from farmates.fronts import judge
from farmates.stretches import FAR, MOST, back
from tests.plain import PlainFolding, all_told, families, matings_of, pairs, plain_trail
from tests.rows import right_row, wild_row
from tests.samples import some_roads

ROAD = (20, [(1, 4, 16, 0), (0, 0, 3, 1), (5, 8, 3, 0)])
# Not the row that fold tells: the last places are folded by themselves.
OTHER_ROW = [("merge", 0, 2), ("fold", 0, 19), ("fold", 0, 4), ("halve", 1), ("bare", 3), ("fold", 1, 2), ("bare", 0)]


class ShortRoadsTest(unittest.TestCase):
    def check(self, length, matings, moves=None):
        folding = Folding(length, matings, moves=moves)
        self.assertEqual(all_told(folding, length), all_told(PlainFolding(length, matings), length), (length, matings))
        self.assertIsNone(judge(length, matings, folding.moves()))
        for place in range(length):
            self.assertEqual(folding.trail(place), plain_trail(length, matings, folding.moves(), place))
        return folding

    def test_no_place(self):
        folding = self.check(0, [])
        self.assertEqual((folding.count(), folding.moves(), folding.spans(), folding.sizes()), (0, [], [], []))
        self.assertEqual(fold(0, []), [])

    def test_no_matings(self):
        for length in range(1, 9):
            folding = self.check(length, [])
            self.assertEqual(folding.spans(), [(0, length, 1)])
            self.assertEqual(folding.sizes(), [(1, length)])

    def test_one_mating(self):
        for length in range(1, 6):
            for mating in matings_of(length):
                self.check(length, [mating])

    def test_two_matings(self):
        for matings in itertools.product(matings_of(3), repeat=2):
            self.check(3, list(matings))

    def test_up_to_seven_matings(self):
        for length, matings in some_roads(21, 250, 11, 7, least=0):
            self.check(length, matings)

    def test_longer_roads_with_many_matings(self):
        for length, matings in some_roads(22, 6, 24, MOST):
            self.check(length, matings)

    def test_short_matings_leave_many_families(self):
        chance = random.Random(23)
        for at in range(60):
            length = chance.randint(8, 14)
            short = [mating for mating in matings_of(length) if mating[2] <= 3]
            self.check(length, [chance.choice(short) for k in range(chance.randint(1, 7))])

    def test_by_any_right_row(self):
        chance = random.Random(24)
        for length, matings in some_roads(25, 60, 9, 5, least=0):
            self.check(length, matings, wild_row(chance, length, matings))
            self.check(length, matings, right_row(length, matings))

    def test_known_ones(self):
        folding = Folding(*ROAD)
        # 1, 4, 7 .. 19 with 2, 5, 8 .. by the step of 3, and 0 with 2 by the mirror; 3, 6 .. 18 are apart.
        self.assertEqual([folding.least(place) for place in range(7)], [0, 1, 0, 3, 1, 0, 3])
        self.assertEqual(folding.spans(), [(0, 2, 7), (3, 4, 6)])
        self.assertEqual(folding.sizes(), [(6, 1), (7, 2)])
        self.assertEqual((folding.rank(18), folding.family(2), folding.size(18)), (2, 3, 6))
        self.assertEqual((folding.meeting(5, 2), folding.meeting(0, 20), folding.meeting(6, 1)), (2, 3, 1))
        self.assertEqual((folding.inside(0, 0, 20), folding.inside(2, 3, 5), folding.inside(0, 6, 2)), (7, 1, 0))

    def test_spans_are_as_long_as_can_be(self):
        # Told bare in three moves, yet the families side by side are of one size.
        folding = Folding(9, [(0, 6, 3, 0)], moves=[("fold", 0, 6), ("bare", 5), ("bare", 2), ("bare", 0)])
        self.assertEqual(folding.spans(), [(0, 3, 2), (3, 6, 1)])
        # Least places that do not lie side by side are not made one.
        self.assertEqual(Folding(4, [(0, 1, 1, 0), (2, 3, 1, 0)]).spans(), [(0, 1, 2), (2, 3, 2)])


class HandedMovesTest(unittest.TestCase):
    def refused(self, length, matings, moves):
        told = judge(length, matings, moves)
        self.assertIsNotNone(told, moves)
        with self.assertRaises(BadMoves) as caught:
            Folding(length, matings, moves=moves)
        self.assertEqual(caught.exception.at, told)

    def test_another_right_row_is_kept(self):
        self.assertNotEqual(fold(*ROAD), OTHER_ROW)
        folding = Folding(*ROAD, moves=OTHER_ROW)
        self.assertEqual(folding.moves(), OTHER_ROW)
        self.assertEqual(folding.trail(19), [(1, 1)])
        self.assertEqual(folding.trail(18), [(2, 3)])
        self.assertEqual(folding.trail(17), [(2, 2), (5, 0)])
        self.assertEqual(folding.trail(0), [])

    def test_none_is_the_row_of_fold(self):
        for length, matings in [ROAD] + some_roads(26, 40, 12, 6, least=0):
            self.assertEqual(Folding(length, matings, moves=None).moves(), fold(length, matings))
            self.assertEqual(Folding(length, matings).moves(), fold(length, matings))

    def test_no_moves_are_not_none(self):
        self.refused(*ROAD, [])
        self.assertEqual(Folding(0, [], moves=[]).count(), 0)
        self.assertEqual(Folding(0, (), moves=()).moves(), [])

    def test_a_move_left_out_put_in_or_the_end_cut(self):
        for row in (OTHER_ROW, fold(*ROAD)):
            for at in range(len(row)):
                self.refused(*ROAD, row[:at])
                self.refused(*ROAD, row[:at] + [("idle", 1)] + row[at:])
                self.refused(*ROAD, row[:at] + [("bare", 20)] + row[at:])
            self.refused(*ROAD, row + [("bare", 0)])
        for at in (0, 3, 4, 5):
            self.refused(*ROAD, OTHER_ROW[:at] + OTHER_ROW[at + 1:])

    def test_numbers_of_bad_moves(self):
        for moves, at in [(OTHER_ROW[:3], 3), (OTHER_ROW[1:2], 1), (OTHER_ROW[2:], 0), (OTHER_ROW[:2] + [("bare", 5)], 2),
                          (tuple(OTHER_ROW) + (("bare", 0),), 7), ([], 0)]:
            with self.assertRaises(BadMoves) as caught:
                Folding(*ROAD, moves=moves)
            self.assertEqual(caught.exception.at, at)

    def test_truths_are_no_numbers(self):
        self.assertEqual(Folding(1, [], moves=[("bare", 0)]).count(), 1)
        with self.assertRaises(BadMoves) as caught:
            Folding(1, [], moves=[("bare", False)])
        self.assertEqual(caught.exception.at, 0)

    def test_behind_the_refusals_of_the_road(self):
        with self.assertRaises(BadNumber):
            Folding(-1, [], moves=[("bare", 7)])
        with self.assertRaises(BadMating):
            Folding(5, [(0, 1, 5, 0)], moves=[("bare", 7)])
        with self.assertRaises(Full):
            Folding(5, [(0, 1, 4, 0)] * (MOST + 1), moves=[("bare", 7)])


class OneRoadManyTellingsTest(unittest.TestCase):
    def setUp(self):
        self.chance = random.Random(27)

    def test_in_another_order_and_the_other_way_about(self):
        for length, matings in some_roads(28, 80, 12, 6):
            expected = all_told(Folding(length, matings), length)
            shuffled = [back(mating) if self.chance.random() < 0.5 else mating for mating in matings]
            self.chance.shuffle(shuffled)
            self.assertEqual(all_told(Folding(length, shuffled), length), expected)

    def test_with_implied_ones_more(self):
        for length, matings in some_roads(29, 80, 10, 4):
            homes = families(length, matings)
            implied = [m for m in matings_of(length) if all(homes[p] == homes[q] for p, q in pairs(m))]
            more = matings + [self.chance.choice(implied) for k in range(4)]
            self.assertEqual(all_told(Folding(length, more), length), all_told(Folding(length, matings), length))


class CopiesTest(unittest.TestCase):
    def test_told_lists_are_new(self):
        folding = Folding(*ROAD)
        for question in (folding.moves, folding.spans, folding.sizes, lambda: folding.trail(19)):
            told = question()
            self.assertIs(type(told), list)
            kept = list(told)
            self.assertTrue(kept)
            told.append("more")
            told[0] = "other"
            self.assertEqual(question(), kept)
            self.assertIsNot(question(), question())
        row = fold(*ROAD)
        row.clear()
        self.assertIsNone(judge(*ROAD, fold(*ROAD)))

    def test_told_are_tuples_in_lists(self):
        folding = Folding(*ROAD)
        for told in (folding.moves(), folding.spans(), folding.sizes(), folding.trail(19), fold(*ROAD)):
            self.assertEqual({type(row) for row in told}, {tuple})

    def test_handed_lists_stay_and_are_not_kept(self):
        length, matings, moves = ROAD[0], list(ROAD[1]), list(OTHER_ROW)
        folding = Folding(length, matings, moves=moves)
        fold(length, matings)
        self.assertEqual((matings, moves), (ROAD[1], OTHER_ROW))
        expected = all_told(folding, length)
        matings.clear()
        moves.clear()
        self.assertEqual(all_told(folding, length), expected)
        self.assertEqual(folding.moves(), OTHER_ROW)
        self.assertEqual(folding.trail(19), [(1, 1)])

    def test_tuples_may_be_handed_in(self):
        folding = Folding(ROAD[0], tuple(ROAD[1]), moves=tuple(OTHER_ROW))
        self.assertEqual(folding.moves(), OTHER_ROW)
        self.assertEqual(fold(ROAD[0], tuple(ROAD[1])), fold(*ROAD))
        self.assertEqual(all_told(folding, 20), all_told(Folding(*ROAD), 20))

    def test_asked_again_the_same_is_told(self):
        first, second = Folding(*ROAD), Folding(*ROAD)
        self.assertEqual(all_told(first, 20), all_told(first, 20))
        self.assertEqual(first.moves(), second.moves())
        self.assertEqual([first.trail(p) for p in range(20)], [second.trail(p) for p in range(20)])

    def test_by_keywords(self):
        folding = Folding(length=20, matings=ROAD[1], moves=OTHER_ROW)
        self.assertEqual(fold(length=3, matings=[]), [("bare", 0)])
        self.assertEqual(folding.least(place=17), 0)
        self.assertEqual(folding.trail(place=19), [(1, 1)])
        self.assertEqual((folding.size(place=3), folding.rank(place=3), folding.family(number=2)), (6, 2, 3))
        self.assertEqual((folding.meeting(at=5, many=2), folding.inside(place=2, at=3, many=5)), (2, 1))
        with self.assertRaises(TypeError):
            Folding(20, ROAD[1], OTHER_ROW)


class RefusedQuestionsTest(unittest.TestCase):
    def setUp(self):
        self.folding = Folding(*ROAD)

    def test_bad_place(self):
        for place in (-1, 20, 10 ** 29, -10 ** 29, True, False):
            for question in (self.folding.least, self.folding.trail, self.folding.size, self.folding.rank):
                with self.subTest(place=place), self.assertRaises(BadPlace) as caught:
                    question(place)
                self.assertIs(caught.exception.place, place)

    def test_no_family(self):
        for number in (-1, 3, 10 ** 29, True, False):
            with self.subTest(number=number), self.assertRaises(NoFamily) as caught:
                self.folding.family(number)
            self.assertIs(caught.exception.number, number)

    def test_bad_stretch(self):
        for at, many in [(-1, 3), (0, 0), (0, -1), (0, 21), (19, 2), (20, 1), (10 ** 29, 1), (0, 10 ** 29),
                         (True, 1), (1, True), (False, 1), (0, False)]:
            for question in (self.folding.meeting, lambda at, many: self.folding.inside(5, at, many)):
                with self.subTest(at=at, many=many), self.assertRaises(BadStretch) as caught:
                    question(at, many)
                self.assertIs(caught.exception.at, at)
                self.assertIs(caught.exception.many, many)

    def test_bad_place_ahead_of_bad_stretch(self):
        for place in (-1, 20, True):
            with self.assertRaises(BadPlace) as caught:
                self.folding.inside(place, 0, 21)
            self.assertIs(caught.exception.place, place)

    def test_the_ends_are_not_refused(self):
        self.assertEqual(self.folding.least(19), 1)
        self.assertEqual(self.folding.family(0), 0)
        self.assertEqual(self.folding.meeting(19, 1), 1)
        self.assertEqual(self.folding.inside(19, 0, 20), 7)

    def test_a_road_of_no_place(self):
        folding = Folding(0, [])
        with self.assertRaises(BadPlace):
            folding.least(0)
        with self.assertRaises(NoFamily):
            folding.family(0)
        with self.assertRaises(BadStretch):
            folding.meeting(0, 1)
        with self.assertRaises(BadPlace):
            folding.inside(0, 0, 1)

    def test_what_is_refused_changes_nothing(self):
        ahead = all_told(self.folding, 20)
        for question in (lambda: self.folding.least(20), lambda: self.folding.family(9),
                         lambda: self.folding.meeting(0, FAR)):
            with self.assertRaises((BadPlace, NoFamily, BadStretch)):
                question()
        self.assertEqual(all_told(self.folding, 20), ahead)

    def test_never_equal_to_another_kind(self):
        self.assertNotEqual(self.folding, self.folding.moves())
        self.assertNotEqual(self.folding, None)


if __name__ == "__main__":
    unittest.main()
