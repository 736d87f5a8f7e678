"""Roads through deeds: matings and their numbers, growing, trimming, swelling, one behind another."""

import random
import unittest

from farmates.errors import BadMating, BadNumber, Full, NoMating
from farmates.roads import Road
from farmates.stretches import FAR, MOST
from tests.plain import pairs
from tests.samples import road_of, some_mating


def stand(road):
    """All that a road tells without being folded, in lists of the test's own."""
    return (road.length(), list(road.matings()), road.folded(), road.keeps())


class RoadCase(unittest.TestCase):
    def refused(self, road, error, deed, **fields):
        """The deed is refused with the error that bears these fields, and all is as ahead."""
        ahead = stand(road)
        with self.assertRaises(error) as caught:
            deed()
        for name in fields:
            told = getattr(caught.exception, name)
            self.assertEqual((told, type(told)), (fields[name], type(fields[name])))
        self.assertEqual(stand(road), ahead)


class NewRoadTest(RoadCase):
    def test_lengths(self):
        self.assertEqual(stand(Road()), (0, [], 0, False))
        for length in (0, 1, 7, FAR):
            self.assertEqual(stand(Road(length)), (length, [], 0, False))
            self.assertEqual(Road(length=length).length(), length)

    def test_refused(self):
        for length in (-1, FAR + 1, 10 ** 29, True, False):
            with self.assertRaises(BadNumber) as caught:
                Road(length)
            self.assertIs(caught.exception.number, length)

    def test_roads_made_apart(self):
        one, other = Road(9), Road(9)
        one.mate(0, 4, 3)
        one.grow(2)
        one.count()
        self.assertEqual(stand(other), (9, [], 0, False))


class MateTest(RoadCase):
    def test_numbers_and_matings_as_they_were_told(self):
        road = Road(9)
        self.assertEqual(road.mate(5, 0, 3), 1)
        self.assertEqual(road.mate(0, 5, 3, turned=1), 2)
        self.assertEqual(road.mate(one=4, other=4, many=2, turned=0), 3)
        self.assertEqual(road.matings(), [(1, (5, 0, 3, 0)), (2, (0, 5, 3, 1)), (3, (4, 4, 2, 0))])
        with self.assertRaises(TypeError):
            road.mate(0, 1, 2, 1)

    def test_one_more_than_the_greatest_that_stands(self):
        road = road_of(9, [(0, 1, 1, 0), (0, 2, 1, 0), (0, 3, 1, 0)])
        self.assertIsNone(road.strike(2))
        self.assertEqual(road.mate(0, 4, 1), 4)
        self.assertEqual([number for number, mating in road.matings()], [1, 3, 4])
        road.strike(4)
        road.strike(3)
        self.assertEqual(road.mate(0, 5, 1), 2)
        self.assertEqual(road.matings(), [(1, (0, 1, 1, 0)), (2, (0, 5, 1, 0))])
        road.strike(1)
        self.assertEqual(road.mate(0, 6, 1), 3)
        road.strike(2)
        road.strike(3)
        self.assertEqual(road.matings(), [])
        self.assertEqual(road.mate(0, 7, 1), 1)

    def test_told_lists_are_new(self):
        road = road_of(9, [(0, 1, 1, 0)])
        told = road.matings()
        told.append((2, (0, 1, 1, 0)))
        told[0] = None
        self.assertEqual(road.matings(), [(1, (0, 1, 1, 0))])

    def test_bad_mating(self):
        road = road_of(9, [(0, 1, 1, 0)])
        for mating in [(0, 0, 10, 0), (0, 7, 3, 0), (7, 0, 3, 1), (-1, 0, 1, 0), (0, 0, 0, 0), (0, 0, -1, 1), (0, 1, 2, 2),
                       (True, 0, 1, 0), (0, True, 1, 0), (0, 0, True, 0), (0, 0, 1, True), (0, 0, 1, False),
                       (10 ** 29, 0, 1, 0)]:
            one, other, many, turned = mating
            self.refused(road, BadMating, lambda: road.mate(one, other, many, turned=turned), mating=mating)
        self.refused(Road(), BadMating, lambda: Road().mate(0, 0, 1), mating=(0, 0, 1, 0))

    def test_full_behind_bad_mating(self):
        road = road_of(9, [(0, 1, 1, 0)] * MOST)
        self.assertEqual(len(road.matings()), 24)
        self.refused(road, Full, lambda: road.mate(0, 1, 1), most=24)
        self.refused(road, BadMating, lambda: road.mate(0, 1, 9), mating=(0, 1, 9, 0))
        road.strike(5)
        self.assertEqual(road.mate(0, 2, 1), 25)
        self.refused(road, Full, lambda: road.mate(0, 1, 1), most=24)

    def test_no_mating_to_strike(self):
        road = road_of(9, [(0, 1, 1, 0), (0, 2, 1, 0), (0, 3, 1, 0)])
        road.strike(number=2)
        for number in (0, 2, 4, -1, 10 ** 29, True, False):
            self.refused(road, NoMating, lambda: road.strike(number), number=number)
        self.refused(Road(), NoMating, lambda: Road().strike(1), number=1)


class GrowTest(RoadCase):
    def test_grows_at_its_end(self):
        road = road_of(9, [(5, 0, 3, 1)])
        self.assertIsNone(road.grow(4))
        self.assertEqual(stand(road), (13, [(1, (5, 0, 3, 1))], 0, False))
        road.grow(more=0)
        self.assertEqual(road.length(), 13)
        road.grow(FAR - 13)
        self.assertEqual(road.length(), FAR)
        road.grow(0)
        self.assertEqual(road.mate(FAR - 1, 0, 1), 2)

    def test_refused(self):
        road = road_of(9, [(5, 0, 3, 1)])
        for more in (-1, FAR - 8, FAR, 10 ** 29, True, False):
            self.refused(road, BadNumber, lambda: road.grow(more), number=more)


class TrimTest(RoadCase):
    def test_each_mating_keeps_the_pairs_that_stay(self):
        chance = random.Random(61)
        for at in range(300):
            length = chance.randint(1, 12)
            matings = [some_mating(chance, length) for k in range(5)]
            road = road_of(length, matings)
            short = chance.randint(0, length)
            self.assertIsNone(road.trim(short))
            expected = {}
            for number, mating in enumerate(matings, 1):
                kept = [pair for pair in pairs(mating) if max(pair) < short]
                if kept:
                    expected[number] = (kept, mating[3])
            told = {number: (pairs(mating), mating[3]) for number, mating in road.matings()}
            self.assertEqual((told, road.length()), (expected, short))

    def test_matings_that_go_leave_gaps(self):
        road = road_of(9, [(0, 1, 1, 0), (8, 0, 1, 0), (4, 0, 5, 1), (0, 4, 5, 1), (2, 3, 6, 0)])
        road.trim(length=7)
        self.assertEqual(road.matings(), [(1, (0, 1, 1, 0)), (3, (4, 2, 3, 1)), (4, (2, 4, 3, 1)), (5, (2, 3, 4, 0))])
        road.trim(0)
        self.assertEqual(stand(road), (0, [], 0, False))

    def test_far(self):
        road = road_of(FAR, [(0, 0, FAR, 1), (0, 5, FAR - 5, 0)])
        road.trim(FAR - 3)
        self.assertEqual(road.matings(), [(1, (3, 3, FAR - 6, 1)), (2, (0, 5, FAR - 8, 0))])

    def test_refused(self):
        road = road_of(9, [(5, 0, 3, 1)])
        for length in (-1, 10, FAR, 10 ** 29, True, False):
            self.refused(road, BadNumber, lambda: road.trim(length), number=length)


class SwellTest(RoadCase):
    def test_each_place_becomes_several(self):
        road = road_of(9, [(5, 0, 3, 1), (0, 1, 8, 0)])
        road.strike(1)
        road.mate(2, 4, 1, turned=1)
        self.assertIsNone(road.swell(3))
        self.assertEqual(stand(road), (27, [(2, (0, 3, 24, 0)), (3, (6, 12, 3, 1))], 0, False))
        road.swell(times=1)
        self.assertEqual(road.length(), 27)

    def test_to_just_far(self):
        road = road_of(8, [(4, 0, 4, 1)])
        road.swell(FAR // 8)
        self.assertEqual(road.matings(), [(1, (FAR // 2, 0, FAR // 2, 1))])
        self.refused(road, BadNumber, lambda: road.swell(2), number=2)
        road.swell(1)

    def test_no_place_swells_by_any_number(self):
        road = Road()
        road.swell(10 ** 29)
        self.assertEqual(stand(road), (0, [], 0, False))

    def test_refused(self):
        road = road_of(9, [(5, 0, 3, 1)])
        for times in (0, -1, FAR // 9 + 1, FAR, 10 ** 29, True, False):
            self.refused(road, BadNumber, lambda: road.swell(times), number=times)
        for times in (0, -1, True, False):
            self.refused(Road(), BadNumber, lambda: Road().swell(times), number=times)


class BehindTest(RoadCase):
    def test_another_road(self):
        road = road_of(9, [(0, 1, 1, 0), (5, 0, 3, 1)])
        road.strike(1)
        other = road_of(4, [(0, 0, 1, 0), (3, 1, 1, 1), (0, 2, 2, 0)])
        other.strike(2)
        ahead = stand(other)
        self.assertIsNone(road.behind(other))
        self.assertEqual(stand(road), (13, [(2, (5, 0, 3, 1)), (3, (9, 9, 1, 0)), (4, (9, 11, 2, 0))], 0, False))
        self.assertEqual(stand(other), ahead)
        other.mate(0, 1, 1)
        self.assertEqual(len(road.matings()), 3)

    def test_itself(self):
        road = road_of(9, [(0, 1, 1, 0), (5, 0, 3, 1)])
        road.strike(1)
        road.behind(other=road)
        self.assertEqual(stand(road), (18, [(2, (5, 0, 3, 1)), (3, (14, 9, 3, 1))], 0, False))

    def test_roads_of_no_place(self):
        road = road_of(9, [(5, 0, 3, 1)])
        road.behind(Road())
        self.assertEqual(stand(road), (9, [(1, (5, 0, 3, 1))], 0, False))
        empty = Road()
        empty.behind(road)
        self.assertEqual(empty, road)
        none = Road()
        none.behind(none)
        self.assertEqual(none, Road())

    def test_to_just_far(self):
        road = road_of(9, [(5, 0, 3, 1)])
        road.behind(Road(FAR - 9))
        self.assertEqual(road.length(), FAR)
        self.refused(road, BadNumber, lambda: road.behind(Road(1)), number=FAR + 1)
        self.refused(road, BadNumber, lambda: road.behind(road), number=2 * FAR)
        road.behind(Road())

    def test_full_behind_bad_number(self):
        road, other = road_of(9, [(0, 1, 1, 0)] * 13), road_of(9, [(0, 1, 1, 0)] * 12)
        self.refused(road, Full, lambda: road.behind(other), most=24)
        self.refused(road, Full, lambda: road.behind(road), most=24)
        other.grow(FAR - 9)
        self.refused(road, BadNumber, lambda: road.behind(other), number=FAR + 9)
        road.strike(4)
        other.trim(9)
        road.behind(other)
        self.assertEqual([number for number, mating in road.matings()], [1, 2, 3] + list(range(5, 26)))


class EqualTest(unittest.TestCase):
    def test_lengths_and_matings_with_their_numbers(self):
        road = road_of(9, [(5, 0, 3, 1), (0, 1, 1, 0)])
        same = road_of(9, [(5, 0, 3, 1), (0, 1, 1, 0)])
        same.count()
        self.assertTrue(road == same)
        self.assertFalse(road != same)
        others = [
            Road(9), road_of(10, [(5, 0, 3, 1), (0, 1, 1, 0)]), road_of(9, [(0, 1, 1, 0), (5, 0, 3, 1)]),
            road_of(9, [(0, 5, 3, 1), (0, 1, 1, 0)]), road_of(9, [(5, 0, 3, 0), (0, 1, 1, 0)]), road_of(9, [(5, 0, 3, 1)]),
        ]
        renumbered = road_of(9, [(5, 0, 3, 1), (0, 1, 1, 0), (0, 1, 1, 0)])
        renumbered.strike(2)
        for other in others + [renumbered]:
            self.assertFalse(road == other)
            self.assertTrue(road != other)

    def test_never_equal_to_another_kind(self):
        for other in (0, None, "", [], (0, {}), {}, "Road(0 places, 0 matings)"):
            self.assertFalse(Road() == other)
            self.assertTrue(Road() != other)

    def test_repr(self):
        self.assertEqual(repr(road_of(7, [(0, 1, 1, 0), (0, 2, 1, 1)])), "Road(7 places, 2 matings)")
        self.assertEqual(repr(Road()), "Road(0 places, 0 matings)")
        self.assertEqual(repr(road_of(1, [(0, 0, 1, 0)])), "Road(1 places, 1 matings)")


class ManyDeedsTest(unittest.TestCase):
    """Deeds in a row, each held against pairs of places that are kept one by one."""

    def test_deeds_in_a_row(self):
        for seed in range(40):
            chance = random.Random(seed)
            length, model, road = 5, {}, Road(5)
            for at in range(30):
                length, model = self.one_deed(chance, road, length, model)
                told = {number: (sorted(pairs(mating)), mating[3]) for number, mating in road.matings()}
                self.assertEqual((road.length(), told), (length, model))
                self.assertEqual([number for number, mating in road.matings()], sorted(model))

    def one_deed(self, chance, road, length, model):
        kind = chance.choice(["mate", "mate", "mate", "strike", "grow", "trim", "swell", "behind"])
        if kind == "mate" and length and len(model) < MOST:
            mating = some_mating(chance, length)
            number = road.mate(*mating[:3], turned=mating[3])
            self.assertEqual(number, max(model, default=0) + 1)
            return length, {**model, number: (sorted(pairs(mating)), mating[3])}
        if kind == "strike" and model:
            number = chance.choice(sorted(model))
            road.strike(number)
            return length, {k: model[k] for k in model if k != number}
        if kind == "grow" and length < 40:
            more = chance.randint(0, 3)
            road.grow(more)
            return length + more, model
        if kind == "trim":
            short = chance.randint(length // 2, length)
            road.trim(short)
            kept = {k: ([p for p in model[k][0] if max(p) < short], model[k][1]) for k in model}
            return short, {k: kept[k] for k in kept if kept[k][0]}
        if kind == "swell" and length < 20:
            road.swell(2)
            return 2 * length, {k: (self.swelled(model[k]), model[k][1]) for k in model}
        if kind == "behind" and length < 20 and 2 * len(model) <= MOST:
            road.behind(road)
            first = max(model, default=0) + 1
            more = {first + at: self.moved(model[k], length) for at, k in enumerate(sorted(model))}
            return 2 * length, {**model, **more}
        return length, model

    def swelled(self, told):
        kept, turned = told
        return sorted((2 * p + k, 2 * q + (1 - k if turned else k)) for p, q in kept for k in (0, 1))

    def moved(self, told, by):
        return [(p + by, q + by) for p, q in told[0]], told[1]


if __name__ == "__main__":
    unittest.main()
