"""Words: likenesses as matings, letters of short words and of stretches of far ones, and periods."""

import random
import unittest

from farmates.errors import BadMating, BadNumber, BadStretch, Full
from farmates.foldings import Folding
from farmates.roads import Road
from farmates.stretches import FAR, MOST, is_mating
from farmates.words import LONGEST, copy_of, is_period, least_word, mirror, most_letters, period, spelled
from tests.plain import PlainFolding, families
from tests.samples import far_roads, road_of, some_roads

WRONG = (-1, -FAR, -10 ** 29, True, False)


class LikenessesTest(unittest.TestCase):
    def refused(self, number, ask, *numbers):
        with self.subTest(numbers=numbers), self.assertRaises(BadNumber) as caught:
            ask(*numbers)
        self.assertIs(caught.exception.number, number)

    def test_matings(self):
        self.assertEqual(copy_of(2, 7, 4), (2, 7, 4, 0))
        self.assertEqual(copy_of(7, 2, 4), (7, 2, 4, 0))
        self.assertEqual(mirror(3, 5), (3, 3, 5, 1))
        self.assertEqual(period(3, 9, 4), (3, 7, 5, 0))
        for told in (copy_of(0, 0, 1), mirror(0, 1), period(0, 2, 1)):
            self.assertIs(type(told), tuple)

    def test_by_keywords(self):
        self.assertEqual(copy_of(one=2, other=7, many=4), (2, 7, 4, 0))
        self.assertEqual(mirror(at=3, many=5), (3, 3, 5, 1))
        self.assertEqual(period(at=3, many=9, step=4), (3, 7, 5, 0))

    def test_least_and_greatest_numbers(self):
        self.assertEqual(copy_of(0, 0, 1), (0, 0, 1, 0))
        self.assertEqual(copy_of(FAR, FAR, FAR), (FAR, FAR, FAR, 0))
        self.assertEqual(mirror(0, 1), (0, 0, 1, 1))
        self.assertEqual(mirror(FAR, FAR), (FAR, FAR, FAR, 1))
        self.assertEqual(period(0, 2, 1), (0, 1, 1, 0))
        self.assertEqual(period(0, FAR, 1), (0, 1, FAR - 1, 0))
        self.assertEqual(period(0, FAR, FAR - 1), (0, FAR - 1, 1, 0))
        self.assertEqual(period(FAR, 5, 4), (FAR, FAR + 4, 1, 0))
        for mating in (copy_of(0, FAR - 1, 1), mirror(0, FAR), period(0, FAR, FAR // 3)):
            self.assertTrue(is_mating(FAR, mating))

    def test_copy_refused(self):
        for wrong in WRONG:
            self.refused(wrong, copy_of, wrong, 0, 1)
            self.refused(wrong, copy_of, 0, wrong, 1)
            self.refused(wrong, copy_of, 0, 0, wrong)
            self.refused(wrong, copy_of, wrong, -7, -8)
            self.refused(wrong, copy_of, 0, wrong, -8)
        self.refused(0, copy_of, 0, 0, 0)

    def test_mirror_refused(self):
        for wrong in WRONG:
            self.refused(wrong, mirror, wrong, 1)
            self.refused(wrong, mirror, wrong, -7)
            self.refused(wrong, mirror, 0, wrong)
        self.refused(0, mirror, 0, 0)

    def test_period_refused(self):
        for wrong in WRONG:
            self.refused(wrong, period, wrong, 9, 3)
            self.refused(wrong, period, wrong, -7, -8)
            self.refused(wrong, period, 0, wrong, 3)
            self.refused(wrong, period, 0, wrong, -8)
            self.refused(wrong, period, 0, 9, wrong)
        self.refused(0, period, 0, 0, 0)
        self.refused(0, period, 0, 0, 5)
        self.refused(5, period, 0, 1, 5)
        self.refused(0, period, 0, 9, 0)
        self.refused(9, period, 0, 9, 9)
        self.refused(10, period, 0, 9, 10)
        self.refused(1, period, 0, 1, 1)
        self.assertEqual(period(0, 9, 8), (0, 8, 1, 0))


class LettersTest(unittest.TestCase):
    def test_short_words(self):
        self.assertEqual(LONGEST, 300)
        for length, matings in some_roads(91, 200, 20, 7, least=0):
            plain = PlainFolding(length, matings)
            self.assertEqual(most_letters(length, matings), plain.count())
            self.assertEqual(least_word(length, matings), [plain.rank(place) for place in range(length)])

    def test_likenesses_hold_in_the_word(self):
        word = least_word(12, [copy_of(0, 8, 3), mirror(2, 5), period(6, 6, 4)])
        self.assertEqual(word[0:3], word[8:11])
        self.assertEqual(word[2:7], word[2:7][::-1])
        self.assertEqual(word[6:8], word[10:12])
        self.assertEqual(word, [0, 1, 2, 3, 4, 3, 2, 5, 0, 1, 2, 5])
        self.assertEqual(most_letters(12, [copy_of(0, 8, 3), mirror(2, 5), period(6, 6, 4)]), 6)

    def test_words_without_likenesses(self):
        self.assertEqual((most_letters(0, []), least_word(0, [])), (0, []))
        self.assertEqual((most_letters(3, []), least_word(3, ())), (3, [0, 1, 2]))

    def test_by_keywords(self):
        self.assertEqual(most_letters(length=5, matings=[mirror(0, 5)]), 3)
        self.assertEqual(least_word(length=5, matings=(mirror(0, 5),)), [0, 1, 2, 1, 0])

    def test_the_longest_words(self):
        self.assertEqual(least_word(300, [period(0, 300, 7)]), [place % 7 for place in range(300)])
        for length in (301, 1000, FAR):
            with self.assertRaises(BadNumber) as caught:
                least_word(length, [period(0, length, 7)])
            self.assertEqual(caught.exception.number, length)
            self.assertEqual(most_letters(length, [period(0, length, 7)]), 7)

    def test_refused_as_a_front_is(self):
        for ask in (most_letters, least_word):
            with self.assertRaises(BadNumber) as caught:
                ask(FAR + 1, [(0, 0, 0, 0)])
            self.assertEqual(caught.exception.number, FAR + 1)
            with self.assertRaises(BadMating) as caught:
                ask(301, [mirror(0, 301), mirror(1, 301)])
            self.assertEqual(caught.exception.mating, (1, 1, 301, 1))
            with self.assertRaises(Full) as caught:
                ask(301, [mirror(0, 301)] * (MOST + 1))
            self.assertEqual(caught.exception.most, MOST)

    def test_told_lists_are_new(self):
        matings = [mirror(0, 5)]
        word = least_word(5, matings)
        word.clear()
        self.assertEqual(least_word(5, matings), [0, 1, 2, 1, 0])
        self.assertEqual(matings, [(0, 0, 5, 1)])


class SpelledTest(unittest.TestCase):
    def test_short_roads(self):
        for length, matings in some_roads(92, 40, 12, 6):
            word, road = least_word(length, matings), road_of(length, matings)
            for at in range(length):
                for many in range(1, length - at + 1):
                    self.assertEqual(spelled(road, at, many), word[at:at + many])
            self.assertEqual(road.folded(), 1)

    def test_far_roads(self):
        for length, matings in far_roads(93, 2):
            road, folding = road_of(length, matings), Folding(length, matings)
            many = min(length, LONGEST)
            told = spelled(road, length - many, many)
            self.assertEqual(told, [folding.rank(place) for place in range(length - many, length)])
            told.clear()
            self.assertEqual(len(spelled(road, 0, many)), many)

    def test_letters_behind_a_long_way(self):
        road = road_of(FAR, [period(0, FAR, 10 ** 9 + 7)])
        start = (10 ** 9 + 7) * 10 ** 8
        self.assertEqual(spelled(road, start - 2, 4), [10 ** 9 + 5, 10 ** 9 + 6, 0, 1])
        self.assertEqual(spelled(road=road, at=start, many=1), [0])

    def test_at_most_so_many(self):
        road = Road(1000)
        self.assertEqual(spelled(road, 700, 300), list(range(700, 1000)))
        for many in (301, 1000):
            with self.assertRaises(BadNumber) as caught:
                spelled(road, 0, many)
            self.assertEqual(caught.exception.number, many)

    def test_bad_stretch_ahead_of_bad_number(self):
        road = Road(1000)
        for at, many in [(-1, 5), (0, 0), (0, -1), (999, 2), (700, 301), (0, 1001), (1000, 1), (True, 1), (0, True),
                         (-1, 400), (0, 10 ** 29)]:
            with self.subTest(at=at, many=many), self.assertRaises(BadStretch) as caught:
                spelled(road, at, many)
            self.assertIs(caught.exception.at, at)
            self.assertIs(caught.exception.many, many)
        with self.assertRaises(BadStretch):
            spelled(Road(), 0, 1)


class PeriodsTest(unittest.TestCase):
    def test_short_roads(self):
        found = 0
        for length, matings in some_roads(94, 150, 9, 4, least=0):
            homes, road = families(length, matings), road_of(length, matings)
            for step in range(1, length + 3):
                expected = all(homes[p] == homes[p + step] for p in range(length - step))
                self.assertIs(is_period(road, step), expected)
                found += expected and step < length
            self.assertEqual((road.folded(), road.keeps(), len(road.matings())), (0, False, len(matings)))
        self.assertGreater(found, 100)

    def test_far_roads(self):
        road = road_of(FAR, [period(0, FAR, 6 * 10 ** 9), period(0, FAR, 10 ** 10)])
        for step, expected in [(2 * 10 ** 9, True), (10 ** 9, False), (4 * 10 ** 17, True), (4 * 10 ** 17 + 1, False),
                               (1, False), (FAR - 1, False), (FAR - 2 * 10 ** 9, True), (FAR, True), (10 ** 29, True)]:
            self.assertIs(is_period(road=road, step=step), expected, step)

    def test_where_as_many_as_may_be_stand(self):
        road = road_of(30, [period(0, 30, 4)] * MOST)
        self.assertIs(is_period(road, 8), True)
        self.assertIs(is_period(road, 2), False)

    def test_none_has_one_a_step_on(self):
        self.assertIs(is_period(Road(), 1), True)
        self.assertIs(is_period(Road(3), 3), True)
        self.assertIs(is_period(Road(3), 2), False)

    def test_refused(self):
        for road in (Road(), Road(9)):
            for step in (0, -1, -10 ** 29, True, False):
                with self.assertRaises(BadNumber) as caught:
                    is_period(road, step)
                self.assertIs(caught.exception.number, step)

    def test_random_steps_of_far_roads(self):
        chance = random.Random(95)
        for length, matings in far_roads(96, 2):
            road, folding = road_of(length, matings), Folding(length, matings)
            for step in (1, 2, chance.randint(1, length)):
                told = is_period(road, step)
                for place in (0, length // 3, max(0, length - 1 - step)):
                    if told and place + step < length:
                        self.assertEqual(folding.least(place), folding.least(place + step))


if __name__ == "__main__":
    unittest.main()
