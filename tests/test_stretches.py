"""Roads, stretches and matings, held against the places one by one."""

import math
import unittest

from farmates.errors import BadNumber, BadStretch
from farmates.stretches import (
    FAR, MOST, after, back, clipped, common, is_mating, led, moved, need_length, normal, part, swelled,
)
from tests.plain import matings_of, pairs

SHORT = 5


class LengthTest(unittest.TestCase):
    def test_numbers_of_the_document(self):
        self.assertEqual((FAR, MOST), (1000000000000000000, 24))

    def test_lengths_in_bounds(self):
        for number in (0, 1, 2, FAR - 1, FAR):
            with self.subTest(number=number):
                self.assertIsNone(need_length(number))
        self.assertIsNone(need_length(number=5))

    def test_lengths_out_of_bounds(self):
        for number in (-1, -FAR, FAR + 1, 10 ** 29, True, False):
            with self.subTest(number=number), self.assertRaises(BadNumber) as caught:
                need_length(number)
            self.assertIs(caught.exception.number, number)


class IsMatingTest(unittest.TestCase):
    def test_all_about_short_roads(self):
        numbers = range(-1, SHORT + 2)
        for length in range(SHORT):
            right = set(matings_of(length))
            for mating in [(a, b, c, d) for a in numbers for b in numbers for c in numbers for d in (-1, 0, 1, 2)]:
                self.assertIs(is_mating(length, mating), mating in right, (length, mating))

    def test_far_bounds(self):
        for turned in (0, 1):
            for mating, told in [
                ((0, 0, FAR), True), ((0, 1, FAR - 1), True), ((1, 0, FAR - 1), True),
                ((FAR - 1, FAR - 1, 1), True), ((0, FAR - 1, 1), True), ((FAR - 1, 0, 1), True),
                ((0, 0, FAR + 1), False), ((1, 0, FAR), False), ((0, 1, FAR), False),
                ((0, FAR, 1), False), ((FAR, 0, 1), False), ((-1, 0, 1), False), ((0, -1, 1), False),
                ((0, 0, 0), False), ((5, 5, -1), False), ((FAR, FAR, 0), False), ((10 ** 29, 0, 1), False),
            ]:
                with self.subTest(mating=mating, turned=turned):
                    self.assertIs(is_mating(FAR, mating + (turned,)), told)

    def test_truths_are_no_numbers(self):
        self.assertIs(is_mating(9, (1, 1, 1, 1)), True)
        self.assertIs(is_mating(9, (0, 0, 1, 0)), True)
        for at in range(4):
            for truth in (True, False):
                mating = [int(truth), int(truth), 1, int(truth)]
                mating[at] = truth
                with self.subTest(mating=mating):
                    self.assertIs(is_mating(9, tuple(mating)), False)
        self.assertIs(is_mating(True, (0, 0, 1, 0)), False)

    def test_by_keywords(self):
        self.assertIs(is_mating(length=2, mating=(0, 1, 1, 0)), True)


class CommonTest(unittest.TestCase):
    def test_small_numbers(self):
        for one in range(1, 40):
            for other in range(1, 40):
                self.assertEqual(common(one, other), math.gcd(one, other))

    def test_great_numbers(self):
        fibs = [1, 2]
        while fibs[-1] < FAR:
            fibs.append(fibs[-1] + fibs[-2])
        for one, other in [
            (fibs[-1], fibs[-2]), (7 * fibs[-3], 7 * fibs[-4]), (FAR, 2 ** 18), (FAR, FAR), (FAR, 1),
            (FAR, FAR - 1), (FAR, FAR // 2), (6 * 10 ** 28, 9 * 10 ** 28), (3 ** 30, 3 ** 40),
        ]:
            with self.subTest(one=one, other=other):
                self.assertEqual(common(one, other), math.gcd(one, other))
                self.assertEqual(common(other, one), math.gcd(one, other))
        self.assertEqual(common(one=12, other=18), 6)


class ToldTest(unittest.TestCase):
    """normal, back and led."""

    def test_back_leads_back(self):
        for mating in matings_of(SHORT):
            told = back(mating)
            self.assertEqual(told, (mating[1], mating[0], mating[2], mating[3]))
            self.assertEqual(sorted(pairs(told)), sorted((q, p) for p, q in pairs(mating)))
            self.assertEqual(back(told), mating)

    def test_normal_has_its_lesser_stretch_first(self):
        for mating in matings_of(SHORT):
            told = normal(mating)
            self.assertIn(told, (mating, back(mating)))
            self.assertLessEqual(told[0], told[1])
        self.assertEqual(normal((FAR - 1, 0, 1, 1)), (0, FAR - 1, 1, 1))
        self.assertEqual(normal(mating=(0, FAR - 1, 1, 0)), (0, FAR - 1, 1, 0))
        self.assertEqual(back(mating=(FAR - 2, 3, 2, 1)), (3, FAR - 2, 2, 1))

    def test_led_of_each_place_and_those_beside(self):
        for mating in matings_of(SHORT):
            goals = dict(pairs(mating))
            for place in range(-2, SHORT + 2):
                self.assertEqual(led(mating, place), goals.get(place), (mating, place))

    def test_led_of_far_places(self):
        straight = (3, 10, FAR - 10, 0)
        turned = (3, 10, FAR - 10, 1)
        for place, goal in [(3, 10), (FAR - 8, FAR - 1), (FAR // 2, FAR // 2 + 7), (2, None), (FAR - 7, None)]:
            self.assertEqual(led(straight, place), goal)
        for place, goal in [(3, FAR - 1), (FAR - 8, 10), (4, FAR - 2), (2, None), (FAR - 7, None), (FAR, None)]:
            self.assertEqual(led(turned, place), goal)
        self.assertEqual(led(mating=(FAR - 1, 0, 1, 1), place=FAR - 1), 0)

    def test_truths_are_no_places(self):
        for turned in (0, 1):
            for truth in (True, False):
                self.assertIsNone(led((0, 2, 3, turned), truth))
                self.assertIsNotNone(led((0, 2, 3, turned), int(truth)))


class PartTest(unittest.TestCase):
    def refused(self, mating, at, many):
        with self.subTest(mating=mating, at=at, many=many), self.assertRaises(BadStretch) as caught:
            part(mating, at, many)
        self.assertIs(caught.exception.at, at)
        self.assertIs(caught.exception.many, many)

    def test_all_stretches_of_short_matings(self):
        for mating in matings_of(SHORT):
            for at in range(-1, SHORT + 2):
                for many in range(-1, SHORT + 2):
                    within = many >= 1 and mating[0] <= at and at + many <= mating[0] + mating[2]
                    if within:
                        told = part(mating, at, many)
                        self.assertEqual(pairs(told), [row for row in pairs(mating) if at <= row[0] < at + many])
                        self.assertEqual(told[3], mating[3])
                    else:
                        with self.assertRaises(BadStretch) as caught:
                            part(mating, at, many)
                        self.assertEqual((caught.exception.at, caught.exception.many), (at, many))

    def test_far(self):
        for turned, goals in [(0, (5, FAR - 1)), (1, (FAR - 1, 5))]:
            mating = (0, 5, FAR - 5, turned)
            self.assertEqual(part(mating, 0, 1), (0, goals[0], 1, turned))
            self.assertEqual(part(mating, FAR - 6, 1), (FAR - 6, goals[1], 1, turned))
            self.assertEqual(part(mating, 0, FAR - 5), mating)
            self.refused(mating, 0, FAR - 4)
            self.refused(mating, FAR - 6, 2)
            self.refused(mating, FAR - 5, 1)
        self.assertEqual(part((0, 5, FAR - 5, 0), 10, 100), (10, 15, 100, 0))
        self.assertEqual(part((0, 5, FAR - 5, 1), 10, 100), (10, FAR - 110, 100, 1))
        self.assertEqual(part(mating=(2, 0, 2, 1), at=3, many=1), (3, 0, 1, 1))

    def test_none_and_beside(self):
        for turned in (0, 1):
            mating = (4, 9, 3, turned)
            for at, many in [(4, 0), (5, -1), (3, 1), (3, 2), (7, 1), (6, 2), (4, 4), (9, 1), (-4, 3), (FAR, FAR)]:
                self.refused(mating, at, many)

    def test_truths_are_no_numbers(self):
        for turned in (0, 1):
            self.refused((0, 3, 2, turned), True, 1)
            self.refused((0, 3, 2, turned), False, 1)
            self.refused((0, 3, 2, turned), 0, True)
            self.refused((0, 3, 2, turned), 1, False)


class AfterTest(unittest.TestCase):
    def check(self, first, second, told):
        goals = dict(pairs(second))
        both = [(p, goals[q]) for p, q in pairs(first) if q in goals]
        if not both:
            self.assertIsNone(told, (first, second))
        else:
            self.assertEqual(pairs(told), both, (first, second))
            self.assertEqual(told[3], first[3] ^ second[3], (first, second))

    def test_all_pairs_of_short_matings(self):
        for first in matings_of(SHORT):
            for second in matings_of(SHORT):
                self.check(first, second, after(first, second))

    def test_pairs_near_the_far_end(self):
        shift = FAR - SHORT
        for first in matings_of(4):
            for second in matings_of(4):
                told = after(moved(first, shift), moved(second, shift))
                self.check(first, second, None if told is None else moved(told, -shift))

    def test_long_ones(self):
        half = FAR // 2
        self.assertEqual(after((0, half, half, 0), (half, 0, half, 1)), (0, 0, half, 1))
        self.assertEqual(after((0, half, half, 1), (half, 0, half, 1)), (0, 0, half, 0))
        self.assertEqual(after((0, 1, FAR - 1, 0), (0, 1, FAR - 1, 0)), (0, 2, FAR - 2, 0))
        self.assertEqual(after((0, 0, FAR, 1), (0, 1, FAR - 1, 0)), (1, 1, FAR - 1, 1))
        self.assertEqual(after((0, 1, FAR - 1, 0), (0, 0, FAR, 1)), (0, 0, FAR - 1, 1))
        self.assertIsNone(after((0, half, half, 0), (0, half, half, 0)))
        self.assertEqual(after(first=(0, 4, 1, 0), second=(4, 9, 1, 1)), (0, 9, 1, 1))


class ChangedTest(unittest.TestCase):
    """moved, swelled and clipped."""

    def test_moved(self):
        for mating in matings_of(SHORT):
            for by in (0, 1, 7, FAR - SHORT):
                told = moved(mating, by)
                self.assertEqual(pairs(told), [(p + by, q + by) for p, q in pairs(mating)])
                self.assertEqual(told[3], mating[3])
        self.assertEqual(moved(mating=(0, 1, 2, 1), by=FAR - 3), (FAR - 3, FAR - 2, 2, 1))

    def test_swelled_by_going_through_the_places(self):
        for mating in matings_of(SHORT):
            for times in (1, 2, 3):
                told = swelled(mating, times)
                expected = []
                for p, q in pairs(mating):
                    for k in range(times):
                        inner = times - 1 - k if mating[3] else k
                        expected.append((times * p + k, times * q + inner))
                self.assertEqual(pairs(told), expected)
                self.assertEqual(told[3], mating[3])

    def test_swelled_to_the_far_end(self):
        self.assertEqual(swelled((1, 3, 2, 1), FAR // 5), (FAR // 5, 3 * (FAR // 5), 2 * (FAR // 5), 1))
        self.assertEqual(swelled((0, 0, 1, 0), FAR), (0, 0, FAR, 0))
        self.assertEqual(swelled(mating=(0, 1, 1, 0), times=2), (0, 2, 2, 0))

    def check_clipped(self, mating, length, told):
        both = [(p, q) for p, q in pairs(mating) if p < length and q < length]
        if not both:
            self.assertIsNone(told, (mating, length))
        else:
            self.assertEqual(pairs(told), both, (mating, length))
            self.assertEqual(told[3], mating[3], (mating, length))

    def test_clipped_at_each_length(self):
        for mating in matings_of(SHORT + 2):
            for length in range(SHORT + 4):
                self.check_clipped(mating, length, clipped(mating, length))

    def test_clipped_near_the_far_end(self):
        shift = FAR - SHORT
        for mating in matings_of(SHORT):
            for length in range(SHORT + 1):
                told = clipped(moved(mating, shift), length + shift)
                self.check_clipped(mating, length, None if told is None else moved(told, -shift))

    def test_clipped_long_ones(self):
        self.assertEqual(clipped((0, 0, FAR, 1), FAR - 1), (1, 1, FAR - 2, 1))
        self.assertEqual(clipped((0, 0, FAR, 1), FAR // 2), None)
        self.assertEqual(clipped((0, 0, FAR, 1), FAR // 2 + 1), (FAR // 2 - 1, FAR // 2 - 1, 2, 1))
        self.assertEqual(clipped((0, 1, FAR - 1, 0), FAR // 2), (0, 1, FAR // 2 - 1, 0))
        self.assertEqual(clipped((1, 0, FAR - 1, 0), FAR // 2), (1, 0, FAR // 2 - 1, 0))
        self.assertIsNone(clipped(mating=(0, FAR - 1, 1, 0), length=FAR - 1))


if __name__ == "__main__":
    unittest.main()
