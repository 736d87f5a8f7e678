"""The refusals of a road told by length and matings, in their order, at all doors that take one."""

import unittest

from farmates.errors import BadMating, BadNumber, BadPlace, Full
from farmates.foldings import Folding, fold
from farmates.papers import judge_kin, kin_paper
from farmates.stretches import FAR, MOST
from farmates.words import least_word, most_letters

# What else is handed in is wrong, too, but the road's own refusals go first.
DOORS = [
    fold,
    Folding,
    lambda length, matings: Folding(length, matings, moves=[("bare", -1)]),
    lambda length, matings: kin_paper(length, matings, -1, True),
    lambda length, matings: judge_kin(length, matings, -1, True, ([], [], [])),
    most_letters,
    least_word,
]
GOOD = (0, 1, 4, 0)
BAD = [
    (0, 0, 10, 0), (0, 9, 1, 0), (9, 0, 1, 0), (-1, 0, 1, 0), (0, -1, 1, 1), (0, 0, 0, 1), (0, 0, -1, 0), (0, 1, 2, 2),
    (0, 1, 2, -1), (True, 0, 1, 0), (0, False, 1, 0), (0, 0, True, 0), (0, 0, 1, True), (0, 0, 1, False),
    (10 ** 29, 0, 1, 0), (0, 0, 10 ** 29, 0),
]


class DoorsTest(unittest.TestCase):
    def test_bad_number(self):
        for door in DOORS:
            for length in (-1, FAR + 1, 10 ** 29, True, False):
                for matings in ([], [(0, 0, 0, 9)], [(0, 0, 1, 0)] * (MOST + 1)):
                    with self.subTest(length=length), self.assertRaises(BadNumber) as caught:
                        door(length, matings)
                    self.assertIs(caught.exception.number, length)

    def test_first_bad_mating(self):
        for door in DOORS:
            for first in BAD:
                for matings in ([first], (GOOD, first), [GOOD, first, (9, 9, 9, 9)], [GOOD] * (MOST + 1) + [first]):
                    with self.subTest(matings=matings), self.assertRaises(BadMating) as caught:
                        door(9, matings)
                    self.assertIs(caught.exception.mating, first)

    def test_a_road_of_no_place_has_no_matings(self):
        for door in DOORS:
            with self.assertRaises(BadMating) as caught:
                door(0, [(0, 0, 1, 0)])
            self.assertEqual(caught.exception.mating, (0, 0, 1, 0))

    def test_full(self):
        for door in DOORS:
            for matings in ([GOOD] * (MOST + 1), (GOOD,) * 40):
                with self.assertRaises(Full) as caught:
                    door(9, matings)
                self.assertEqual(caught.exception.most, 24)

    def test_as_many_as_may_be(self):
        matings = [GOOD] * MOST
        self.assertEqual(Folding(9, matings).count(), 5)
        self.assertEqual(most_letters(9, matings), 5)
        self.assertEqual(least_word(9, matings), [0, 0, 0, 0, 0, 1, 2, 3, 4])
        self.assertIs(judge_kin(9, matings, 0, 4, kin_paper(9, matings, 0, 4)), True)

    def test_the_longest_road(self):
        matings = [(0, 1, FAR - 1, 0)]
        self.assertEqual(fold(FAR, matings), [("fold", 0, 1), ("bare", 0)])
        self.assertEqual(most_letters(FAR, matings), 1)
        self.assertIs(judge_kin(FAR, matings, 0, FAR - 1, kin_paper(FAR, matings, 0, FAR - 1)), True)

    def test_refused_words_come_behind(self):
        with self.assertRaises(Full):
            least_word(301, [GOOD] * (MOST + 1))
        with self.assertRaises(BadMating):
            least_word(301, [(0, 300, 2, 0)])
        with self.assertRaises(BadPlace):
            kin_paper(9, [GOOD], 9, 0)

    def test_handed_lists_stay(self):
        matings = [(4, 0, 2, 1), GOOD]
        for door in (fold, Folding, most_letters, least_word, lambda n, told: kin_paper(n, told, 0, 1)):
            first, second = door(9, matings), door(9, tuple(matings))
            self.assertEqual(matings, [(4, 0, 2, 1), GOOD])
            if door is not Folding:
                self.assertEqual(first, second)


if __name__ == "__main__":
    unittest.main()
