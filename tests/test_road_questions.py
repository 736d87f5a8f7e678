"""Questions to roads: what they tell, when a road is folded and keeps its folding, and what is asked beside it."""

import itertools
import random
import unittest

from farmates.errors import BadMating, BadNumber, BadPlace, BadStretch, Full, NoFamily, NoMating
from farmates.foldings import Folding
from farmates.fronts import judge
from farmates.roads import Road
from farmates.stretches import FAR, MOST, back
from farmates.words import is_period, spelled
from tests.plain import PlainFolding, all_told, families, matings_of, pairs, turned_families
from tests.samples import block_road, far_roads, road_of, some_mating, some_roads, swelled_road

# The questions from count to trail, and kin.
QUESTIONS = [
    lambda road: road.count(), lambda road: road.least(0), lambda road: road.size(0), lambda road: road.rank(0),
    lambda road: road.family(0), lambda road: road.spans(), lambda road: road.sizes(), lambda road: road.meeting(0, 1),
    lambda road: road.inside(0, 0, 1), lambda road: road.moves(), lambda road: road.trail(0), lambda road: road.kin(0, 1),
]


class AnswersTest(unittest.TestCase):
    def test_short_roads(self):
        for length, matings in some_roads(71, 80, 10, 7, least=0):
            road = road_of(length, matings)
            self.assertEqual(all_told(road, length), all_told(PlainFolding(length, matings), length))
            homes = families(length, matings)
            for one in range(length):
                for other in range(length):
                    self.assertIs(road.kin(one, other), homes[one] == homes[other])

    def test_moves_and_trails_are_of_the_matings_by_rising_numbers(self):
        for length, matings in some_roads(72, 40, 10, 7):
            road = road_of(length, [(0, 0, 1, 0)] + matings + [(0, 0, length, 1)])
            road.strike(1)
            road.strike(len(matings) + 2)
            self.assertIsNone(judge(length, matings, road.moves()))
            folding = Folding(length, matings, moves=road.moves())
            self.assertEqual([road.trail(p) for p in range(length)], [folding.trail(p) for p in range(length)])

    def test_behind_deeds(self):
        road = road_of(6, [(0, 2, 4, 0)])
        self.assertEqual((road.count(), road.spans()), (2, [(0, 2, 3)]))
        road.grow(1)
        self.assertEqual((road.count(), road.spans()), (3, [(0, 2, 3), (6, 7, 1)]))
        road.mate(0, 6, 1)
        self.assertEqual(road.spans(), [(0, 1, 4), (1, 2, 3)])
        road.swell(2)
        self.assertEqual(road.spans(), [(0, 2, 4), (2, 4, 3)])
        road.strike(1)
        self.assertEqual(road.count(), 12)
        road.trim(12)
        self.assertEqual(road.sizes(), [(1, 12)])
        road.behind(road_of(3, [(0, 1, 2, 0)]))
        self.assertEqual(road.sizes(), [(1, 12), (3, 1)])
        self.assertTrue(road.kin(12, 14))
        self.assertFalse(road.kin(11, 12))

    def test_far(self):
        chance = random.Random(73)
        for length, matings in far_roads(74, 3):
            road, folding = road_of(length, matings), Folding(length, matings)
            self.assertEqual((road.count(), road.spans(), road.moves()), (folding.count(), folding.spans(), folding.moves()))
            for k in range(4):
                one, other = chance.randrange(length), chance.randrange(length)
                self.assertEqual(road.kin(one, other), folding.least(one) == folding.least(other))
                self.assertTrue(road.kin(one, folding.least(one)))
            self.assertEqual(road.folded(), 1)

    def test_refused(self):
        road = road_of(9, [(0, 3, 6, 0)])
        for place in (-1, 9, 10 ** 29, True, False):
            for ask in (road.least, road.size, road.rank, road.trail, lambda p: road.kin(p, -7), lambda p: road.kin(0, p),
                        lambda p: road.inside(p, 0, 99)):
                with self.subTest(place=place), self.assertRaises(BadPlace) as caught:
                    ask(place)
                self.assertIs(caught.exception.place, place)
        for number in (-1, 3, True, False):
            with self.assertRaises(NoFamily) as caught:
                road.family(number)
            self.assertIs(caught.exception.number, number)
        for at, many in [(-1, 2), (0, 0), (0, 10), (9, 1), (True, 1), (0, True)]:
            for ask in (road.meeting, lambda at, many: road.inside(8, at, many)):
                with self.assertRaises(BadStretch) as caught:
                    ask(at, many)
                self.assertIs(caught.exception.at, at)
                self.assertIs(caught.exception.many, many)

    def test_told_lists_are_new(self):
        road = road_of(9, [(0, 3, 6, 0)])
        for ask in (road.spans, road.sizes, road.moves, lambda: road.trail(8)):
            told = ask()
            kept = list(told)
            told.clear()
            self.assertEqual(ask(), kept)
            self.assertTrue(kept)

    def test_by_keywords(self):
        road = road_of(9, [(0, 3, 6, 0)])
        self.assertEqual((road.least(place=8), road.size(place=8), road.rank(place=8), road.family(number=2)), (2, 3, 2, 2))
        self.assertEqual((road.meeting(at=1, many=2), road.inside(place=8, at=1, many=8)), (2, 3))
        self.assertEqual((road.trail(place=1), road.kin(one=0, other=3)), ([], True))
        self.assertIs(road.implies(one=0, other=6, many=3, turned=0), True)
        self.assertIs(road.alike(other=road), True)


class FoldedTest(unittest.TestCase):
    def asked(self):
        road = road_of(9, [(0, 3, 6, 0), (0, 0, 2, 1)])
        road.count()
        return road

    def test_each_question_folds_once(self):
        for question in QUESTIONS:
            road = road_of(9, [(0, 3, 6, 0)])
            self.assertEqual((road.folded(), road.keeps()), (0, False))
            question(road)
            self.assertEqual((road.folded(), road.keeps()), (1, True))
            for other in QUESTIONS:
                other(road)
            self.assertEqual((road.folded(), road.keeps()), (1, True))

    def test_questions_that_need_no_folding(self):
        road = road_of(9, [(0, 3, 6, 0)])
        road.length(), road.matings(), road.folded(), road.keeps(), road.twin(), repr(road), road == Road(9)
        self.assertEqual((road.folded(), road.keeps()), (0, False))

    def test_deeds_that_change_let_the_folding_go(self):
        for deed in (lambda road: road.mate(0, 0, 1), lambda road: road.strike(1), lambda road: road.grow(1),
                     lambda road: road.trim(8), lambda road: road.swell(2), lambda road: road.behind(Road(1)),
                     lambda road: road.behind(road)):
            road = self.asked()
            deed(road)
            self.assertEqual((road.folded(), road.keeps()), (1, False))
            road.count()
            road.least(0)
            self.assertEqual((road.folded(), road.keeps()), (2, True))

    def test_deeds_that_leave_the_road_as_it_was(self):
        road = self.asked()
        for deed in (lambda: road.grow(0), lambda: road.trim(9), lambda: road.swell(1), lambda: road.behind(Road())):
            deed()
            self.assertEqual((road.folded(), road.keeps()), (1, True))
        self.assertEqual(road.count(), 2)
        self.assertEqual(road.folded(), 1)

    def test_a_change_and_back_is_another_road_between(self):
        road = self.asked()
        road.grow(1)
        road.trim(9)
        self.assertFalse(road.keeps())
        road.count()
        road.mate(0, 0, 1)
        road.strike(3)
        self.assertEqual((road.folded(), road.keeps()), (2, False))
        road.count()
        self.assertEqual(road.folded(), 3)

    def test_refused_deeds(self):
        road = self.asked()
        for error, deed in [
            (BadMating, lambda: road.mate(0, 0, 10)), (NoMating, lambda: road.strike(3)), (BadNumber, lambda: road.grow(-1)),
            (BadNumber, lambda: road.trim(10)), (BadNumber, lambda: road.swell(0)),
            (BadNumber, lambda: road.behind(Road(FAR))), (Full, lambda: road.behind(road_of(2, [(0, 1, 1, 0)] * 23))),
        ]:
            with self.assertRaises(error):
                deed()
            self.assertEqual((road.folded(), road.keeps()), (1, True))
        full = road_of(2, [(0, 1, 1, 0)] * MOST)
        full.count()
        with self.assertRaises(Full):
            full.mate(0, 1, 1)
        self.assertEqual((full.folded(), full.keeps()), (1, True))

    def test_refused_questions_of_a_folded_road(self):
        road = self.asked()
        with self.assertRaises(BadPlace):
            road.least(9)
        with self.assertRaises(NoFamily):
            road.family(2)
        self.assertEqual((road.folded(), road.keeps()), (1, True))

    def test_what_asks_about_another_road(self):
        for ask in (lambda road, other: road.implies(0, 1, 3), lambda road, other: road.alike(other),
                    lambda road, other: other.alike(road), lambda road, other: road.turned_about(),
                    lambda road, other: is_period(road, 3), lambda road, other: is_period(road, 99)):
            road, other = road_of(9, [(0, 3, 6, 0)]), road_of(9, [(3, 0, 6, 0)])
            ask(road, other)
            self.assertEqual([road.folded(), road.keeps(), other.folded(), other.keeps()], [0, False, 0, False])
            road.count()
            ask(road, other)
            self.assertEqual([road.folded(), road.keeps(), other.folded(), other.keeps()], [1, True, 0, False])
            other.count()
            ask(road, other)
            self.assertEqual([road.folded(), road.keeps(), other.folded(), other.keeps()], [1, True, 1, True])

    def test_spelled_asks_the_very_road(self):
        road = road_of(9, [(0, 3, 6, 0)])
        spelled(road, 2, 3)
        self.assertEqual((road.folded(), road.keeps()), (1, True))
        spelled(road, 0, 9)
        road.count()
        self.assertEqual(road.folded(), 1)

    def test_a_road_of_no_place(self):
        road = Road()
        self.assertEqual((road.count(), road.folded(), road.keeps()), (0, 1, True))
        for deed in (lambda: road.grow(0), lambda: road.trim(0), lambda: road.swell(7), lambda: road.behind(Road()),
                     lambda: road.behind(road)):
            deed()
            self.assertEqual((road.folded(), road.keeps()), (1, True))
        self.assertEqual((road.spans(), road.sizes(), road.moves(), road.folded()), ([], [], [], 1))
        road.grow(1)
        self.assertEqual((road.count(), road.folded()), (1, 2))

    def test_one_taken_behind_keeps_its_folding(self):
        road, other = self.asked(), self.asked()
        road.behind(other)
        self.assertEqual((other.folded(), other.keeps()), (1, True))


class TwinTest(unittest.TestCase):
    def test_alike_in_all(self):
        for asked in (False, True):
            road = road_of(9, [(0, 3, 6, 0), (0, 0, 2, 1)])
            road.count()
            road.strike(1)
            if asked:
                road.moves()
            twin = road.twin()
            self.assertEqual(twin, road)
            self.assertEqual((twin.folded(), twin.keeps()), (road.folded(), asked))
            self.assertEqual(twin.moves(), road.moves())
            self.assertEqual(twin.folded(), 2)

    def test_of_its_own(self):
        road = road_of(9, [(0, 3, 6, 0)])
        twin = road.twin()
        twin.count()
        self.assertEqual((road.folded(), road.keeps()), (0, False))
        road.count()
        again = road.twin()
        again.mate(0, 1, 1)
        again.grow(2)
        self.assertEqual((road.length(), road.matings()), (9, [(1, (0, 3, 6, 0))]))
        self.assertEqual((road.folded(), road.keeps(), again.folded(), again.keeps()), (1, True, 1, False))
        road.strike(1)
        self.assertEqual((road.count(), twin.count(), again.count()), (9, 3, 4))


class ImpliesTest(unittest.TestCase):
    def test_short_roads(self):
        for length, matings in some_roads(75, 60, 6, 4):
            road = road_of(length, matings)
            homes = families(length, matings)
            for one, other, many, turned in matings_of(length):
                expected = all(homes[p] == homes[q] for p, q in pairs((one, other, many, turned)))
                self.assertIs(road.implies(one, other, many, turned=turned), expected)

    def test_left_out_it_is_straight(self):
        road = road_of(9, [(0, 3, 6, 0)])
        self.assertIs(road.implies(0, 3, 2), True)
        self.assertIs(road.implies(0, 3, 2, turned=1), False)
        with self.assertRaises(TypeError):
            road.implies(0, 3, 2, 1)

    def test_far(self):
        chance = random.Random(76)
        for length, matings in far_roads(77, 2):
            road = road_of(length, matings)
            for one, other, many, turned in matings:
                self.assertTrue(road.implies(other, one, many, turned=turned))
            one, other, many, turned = some_mating(chance, length)
            more = Folding(length, matings[:MOST - 1] + [(one, other, many, turned)]).count()
            if len(matings) < MOST:
                self.assertEqual(road.implies(one, other, many, turned=turned), more == road.count())

    def test_where_as_many_as_may_be_stand(self):
        road = road_of(FAR, [(0, 2 ** k, FAR - 2 ** k, 0) for k in range(3, 3 + MOST)])
        self.assertIs(road.implies(5, 5 + 8 * 12345, 10 ** 12), True)
        self.assertIs(road.implies(0, 4, 1), False)
        self.assertEqual(len(road.matings()), MOST)

    def test_refused(self):
        road = road_of(9, [(0, 3, 6, 0)])
        for mating in [(0, 3, 7, 0), (-1, 0, 1, 0), (0, 0, 0, 1), (0, 0, 1, 2), (0, 0, 1, True), (False, 0, 1, 0)]:
            one, other, many, turned = mating
            with self.assertRaises(BadMating) as caught:
                road.implies(one, other, many, turned=turned)
            told = caught.exception.mating
            self.assertEqual([(n, type(n)) for n in told], [(n, type(n)) for n in mating])
        self.assertEqual(road.matings(), [(1, (0, 3, 6, 0))])


class AlikeTest(unittest.TestCase):
    def both_ways(self, one, other, expected):
        self.assertIs(one.alike(other), expected)
        self.assertIs(other.alike(one), expected)

    def test_short_roads(self):
        alike = 0
        for length in range(1, 6):
            roads = [(matings, families(length, matings))
                     for seed in range(25)
                     for matings in [[some_mating(random.Random(100 * length + seed + k), length) for k in range(2)]]]
            for (first, homes), (second, others) in itertools.product(roads, repeat=2):
                self.assertIs(road_of(length, first).alike(road_of(length, second)), homes == others)
                alike += homes == others and first != second
        self.assertGreater(alike, 50)

    def test_one_implies_the_other_only(self):
        finer, coarser = road_of(12, [(0, 4, 8, 0)]), road_of(12, [(0, 2, 10, 0)])
        self.both_ways(finer, coarser, False)
        finer.mate(0, 6, 6)
        self.both_ways(finer, coarser, True)

    def test_as_many_families_but_others(self):
        self.both_ways(road_of(4, [(0, 1, 1, 0)]), road_of(4, [(2, 3, 1, 0)]), False)

    def test_other_lengths(self):
        self.both_ways(Road(3), Road(4), False)
        self.both_ways(Road(), Road(), True)
        self.both_ways(Road(FAR), Road(FAR), True)
        self.both_ways(Road(FAR), Road(FAR - 1), False)

    def test_itself_and_a_twin(self):
        road = road_of(9, [(0, 3, 6, 0)])
        self.both_ways(road, road, True)
        self.both_ways(road, road.twin(), True)

    def test_far(self):
        chance = random.Random(78)
        for length, matings in far_roads(79, 3):
            road = road_of(length, matings)
            shuffled = [back(mating) if chance.random() < 0.5 else mating for mating in matings]
            chance.shuffle(shuffled)
            self.both_ways(road, road_of(length, shuffled), True)
            if road.count() < length:
                self.both_ways(road, Road(length), False)


class TurnedAboutTest(unittest.TestCase):
    def test_against_going_along_the_matings(self):
        for length, matings in some_roads(80, 300, 12, 6, least=0):
            found, about = turned_families(length, matings)
            road = road_of(length, matings)
            self.assertEqual(road.turned_about(), len(about), (length, matings))

    def test_against_the_counts_of_swelled_roads(self):
        for length, matings in some_roads(81, 60, 9, 5):
            road = road_of(length, matings)
            about, count = road.turned_about(), road.count()
            for times in (1, 2, 3, 4, 7, FAR // length):
                swollen = road.twin()
                swollen.swell(times)
                self.assertEqual(swollen.count(), times * (count - about) + (times + 1) // 2 * about)

    def test_known_ones(self):
        self.assertEqual(Road().turned_about(), 0)
        self.assertEqual(Road(FAR).turned_about(), 0)
        # Only the middle place is led to itself; of an even length there is none.
        self.assertEqual(road_of(7, [(0, 0, 7, 1)]).turned_about(), 1)
        self.assertEqual(road_of(8, [(0, 0, 8, 1)]).turned_about(), 0)
        self.assertEqual(road_of(8, [(0, 0, 8, 1), (0, 1, 7, 0)]).turned_about(), 1)
        self.assertEqual(road_of(2, [(0, 1, 1, 1)]).turned_about(), 0)
        self.assertEqual(road_of(2, [(0, 1, 1, 1), (0, 1, 1, 0)]).turned_about(), 1)
        self.assertEqual(road_of(1, [(0, 0, 1, 1)]).turned_about(), 1)
        self.assertEqual(road_of(1, [(0, 0, 1, 0)]).turned_about(), 0)

    def test_the_longest_roads(self):
        self.assertEqual(road_of(FAR, [(0, 0, FAR, 1)]).turned_about(), 0)
        self.assertEqual(road_of(FAR - 1, [(0, 0, FAR - 1, 1)]).turned_about(), 1)
        # A mirror and a step lay each place upon its mirror by a turned mating, and by straight ones where it is kin.
        half = FAR // 2
        road = road_of(FAR, [(0, half, half, 0), (0, half, half, 1)])
        self.assertEqual((road.count(), road.turned_about()), (half // 2, 0))
        self.assertEqual(road_of(FAR, [(0, 1, FAR - 1, 0), (0, 0, 2, 1)]).turned_about(), 1)

    def test_far_blocks(self):
        # A family of blocks that is turned about itself leaves one turned about itself where a block has a middle.
        chance = random.Random(82)
        for at in range(40):
            lengths, short, length, matings = block_road(chance)
            found, about = turned_families(len(lengths), short)
            expected = sum(lengths[block] % 2 for block in about)
            self.assertEqual(road_of(length, matings).turned_about(), expected)
            count, matings, times, length, far = swelled_road(chance)
            found, about = turned_families(count, matings)
            self.assertEqual(road_of(length, far).turned_about(), len(about) * (times % 2))


if __name__ == "__main__":
    unittest.main()
