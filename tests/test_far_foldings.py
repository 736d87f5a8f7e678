"""Foldings of far roads: known families, and answers that hang together, each within a short time."""

import random
import time
import unittest

from farmates.foldings import Folding, fold
from farmates.fronts import judge
from farmates.stretches import FAR, MOST, common, led
from tests.plain import turned_families
from tests.samples import (
    any_scale, block_road, drawn_anywhere, exchange, far_roads, mirrors, nearly_whole, of_all_scales, row_of_sums,
    steps_of_sums, swelled_road,
)

# What takes a hundredth of this on a slow machine is not refused; going to places one by one never ends.
SECONDS = 20


class FarCase(unittest.TestCase):
    def folded(self, length, matings):
        begin = time.perf_counter()
        folding = Folding(length, matings)
        self.assertLess(time.perf_counter() - begin, SECONDS, (length, matings))
        return folding

    def places(self, chance, length, matings):
        """Places at the ends of the road and of the matings, and some others."""
        told = [0, length // 2, length - 1] + [chance.randrange(length) for k in range(3)]
        for one, other, many, turned in chance.sample(matings, min(4, len(matings))):
            told += [one, other + many - 1]
        return told

    def hang_together(self, chance, length, matings):
        folding = self.folded(length, matings)
        self.assertIsNone(judge(length, matings, folding.moves()))
        self.spans_hang_together(length, folding)
        for mating in matings:
            for k in (0, mating[2] // 2, mating[2] - 1, chance.randrange(mating[2])):
                self.assertEqual(folding.least(mating[0] + k), folding.least(led(mating, mating[0] + k)))
        for place in self.places(chance, length, matings):
            self.place_hangs_together(chance, length, folding, place)

    def spans_hang_together(self, length, folding):
        spans = folding.spans()
        self.assertEqual(sum(end - begin for begin, end, size in spans), folding.count())
        self.assertEqual(sum((end - begin) * size for begin, end, size in spans), length)
        self.assertEqual(sum(size * many for size, many in folding.sizes()), length)
        self.assertEqual(sum(many for size, many in folding.sizes()), folding.count())
        self.assertEqual([size for size, many in folding.sizes()], sorted({size for begin, end, size in spans}))
        rank = 0
        for at, (begin, end, size) in enumerate(spans):
            self.assertLess(begin, end)
            if at:
                self.assertLessEqual(spans[at - 1][1], begin)
                self.assertNotEqual(spans[at - 1][1:], (begin, size))
            self.assertEqual((folding.family(rank), folding.rank(begin)), (begin, rank))
            rank += end - begin
            self.assertEqual((folding.family(rank - 1), folding.rank(end - 1)), (end - 1, rank - 1))
            for place in (begin, end - 1):
                self.assertEqual((folding.least(place), folding.size(place)), (place, size))
        self.assertEqual(folding.meeting(0, length), folding.count())

    def place_hangs_together(self, chance, length, folding, place):
        least = folding.least(place)
        self.assertLessEqual(least, place)
        self.assertEqual(folding.least(least), least)
        self.assertEqual(folding.rank(least), folding.rank(place))
        self.assertEqual(folding.family(folding.rank(place)), least)
        self.assertEqual(folding.size(least), folding.size(place))
        trail = folding.trail(place)
        self.assertEqual([number for number, goal in trail], sorted({number for number, goal in trail}))
        self.assertEqual(([place] + [goal for number, goal in trail])[-1], least)
        self.assertEqual(folding.meeting(place, 1), 1)
        self.assertEqual(folding.inside(place, place, 1), 1)
        self.assertEqual(folding.inside(place, 0, length), folding.size(place))
        cut = chance.randint(1, length - 1) if length > 1 else 1
        parts = [(0, cut)] + ([(cut, length - cut)] if cut < length else [])
        self.assertEqual(sum(folding.inside(place, at, many) for at, many in parts), folding.size(place))
        meetings = [folding.meeting(at, many) for at, many in parts]
        self.assertLessEqual(max(meetings), folding.count())
        self.assertGreaterEqual(sum(meetings), folding.count())


class KnownFamiliesTest(FarCase):
    def far_least(self, found, about, lengths, starts, block, inner):
        """The least place of a place, told by the families of blocks."""
        least, turned = found[block]
        many = lengths[block]
        if turned:
            inner = many - 1 - inner
        if least in about:
            inner = min(inner, many - 1 - inner)
        return starts[least] + inner

    def check_blocks(self, lengths, short, length, matings):
        """The families of a road whose matings lay whole blocks upon whole blocks."""
        found, about = turned_families(len(lengths), short)
        starts = [sum(lengths[:k]) for k in range(len(lengths))]
        folding = self.folded(length, matings)
        self.assertIsNone(judge(length, matings, folding.moves()))
        leasts = sorted({least for least, turned in found})
        self.assertEqual(folding.count(), sum(-(-lengths[k] // 2) if k in about else lengths[k] for k in leasts))
        for block, many in enumerate(lengths):
            size = sum(least == found[block][0] for least, turned in found)
            for inner in sorted({0, many // 3, many // 2, many - 1}):
                place = starts[block] + inner
                least = self.far_least(found, about, lengths, starts, block, inner)
                self.assertEqual(folding.least(place), least, (lengths, short))
                # Of a family turned about itself a place that isn't in the middle has its mirror, too.
                doubled = found[block][0] in about and 2 * inner != many - 1
                self.assertEqual(folding.size(place), 2 * size if doubled else size)

    def test_swelled_short_roads(self):
        chance = random.Random(31)
        for at in range(150):
            short, matings, times, length, far = swelled_road(chance)
            self.check_blocks([times] * short, matings, length, far)

    def test_blocks_of_unlike_lengths(self):
        chance = random.Random(32)
        for at in range(150):
            self.check_blocks(*block_road(chance))

    def test_no_matings(self):
        folding = self.folded(FAR, [])
        self.assertEqual((folding.count(), folding.spans(), folding.sizes()), (FAR, [(0, FAR, 1)], [(1, FAR)]))
        self.assertEqual((folding.rank(FAR - 1), folding.family(FAR - 1)), (FAR - 1, FAR - 1))
        self.assertEqual((folding.meeting(5, FAR - 9), folding.inside(3, 4, FAR - 4)), (FAR - 9, 0))

    def check_two_steps(self, one, other, length):
        folding = self.folded(length, [(0, one, length - one, 0), (0, other, length - other, 0)])
        # A road too short for the greatest common part has no rounds: each mating takes off as many as it leads.
        self.assertEqual(folding.count(), max(common(one, other), one + other - length), (one, other, length))

    def test_two_steps(self):
        chance = random.Random(33)
        for at in range(100):
            one, other = chance.randint(1, FAR // 2), chance.randint(1, FAR // 2)
            if at % 2:
                factor = chance.randint(2, 10 ** 6)
                one, other = one // factor * factor + factor, other // factor * factor + factor
            for length in (FAR, one + other, one + other - common(one, other), one + other - common(one, other) - 1,
                           max(one, other) + 1, chance.randint(max(one, other) + 1, FAR)):
                if max(one, other) < length <= FAR:
                    self.check_two_steps(one, other, length)

    def test_neighbours_of_a_row_of_sums(self):
        row = row_of_sums()
        self.assertGreater(len(row), 80)
        for one, other in zip(row[1:], row[2:]):
            for length in (one + other - 3, one + other - 2, one + other - 1, one + other):
                if other < length <= FAR:
                    self.check_two_steps(one, other, length)

    def test_more_steps_on_a_road_that_is_long_enough(self):
        chance = random.Random(34)
        for many in range(2, 9):
            factor = chance.randint(1, 10 ** 9)
            steps = [factor * chance.randint(1, 10 ** 7) for k in range(many)]
            step = 0
            for each in steps:
                step = common(each, step) if step else each
            folding = self.folded(FAR, [(0, each, FAR - each, 0) for each in steps])
            self.assertEqual(folding.count(), step)
            self.assertEqual(folding.least(FAR - 1), (FAR - 1) % step)
            # The places left of FAR by whole steps are one more than of those behind.
            over = FAR % step
            expected = [(0, over, FAR // step + 1), (over, step, FAR // step)]
            self.assertEqual(folding.spans(), [span for span in expected if span[0] < span[1]])

    def test_mirror_of_the_whole_road(self):
        for length in (FAR, FAR - 1, 2 ** 59 - 1):
            folding = self.folded(length, [(0, 0, length, 1)])
            self.assertEqual(folding.count(), (length + 1) // 2)
            self.assertEqual(folding.least(length - 8), 7)
            self.assertEqual(folding.sizes(), [(1, 1), (2, length // 2)] if length % 2 else [(2, length // 2)])

    def test_mirrors_of_the_whole_road_and_of_a_part(self):
        # Two mirrors whose middles lie k halves apart make a period of k, read to and fro.
        for cut in (1, 2, 7, 10 ** 6, 10 ** 9 + 7):
            folding = self.folded(FAR, [(0, 0, FAR, 1), (cut, cut, FAR - cut, 1)])
            self.assertEqual(folding.count(), cut // 2 + cut % 2)
            for place in (0, cut, FAR // 3, FAR - 1):
                self.assertEqual(folding.least(place), min(place % cut, (FAR - 1 - place) % cut))

    def test_powers_of_two_told_or_left_out(self):
        chance = random.Random(35)
        for at in range(40):
            told = chance.sample(range(59), MOST) if at % 2 else list(range(35, 59))
            matings = [(0, 2 ** k, 2 ** k, chance.randint(0, 1)) for k in told]
            folding = self.folded(2 ** 59, matings)
            # A place is a least one where its greatest power of two is left out, and 0 is.
            self.assertEqual(folding.count(), 1 + sum(2 ** k for k in range(59) if k not in told))
            self.assertEqual([folding.least(2 ** k) == 2 ** k for k in range(59)], [k not in told for k in range(59)])

    def test_all_of_a_short_power_of_two(self):
        folding = self.folded(2 ** MOST, [(0, 2 ** k, 2 ** k, 0) for k in range(MOST)])
        self.assertEqual(folding.sizes(), [(2 ** MOST, 1)])
        halves = [(0, 2 ** k, 2 ** k, 0) for k in range(MOST) if k != 20]
        self.assertEqual(self.folded(2 ** MOST, halves).count(), 1 + 2 ** 20)


class HangTogetherTest(FarCase):
    def test_all_kinds(self):
        chance = random.Random(41)
        for length, matings in far_roads(42, 12):
            self.hang_together(chance, length, matings)

    def test_twenty_four_at_once(self):
        chance = random.Random(43)
        for draw in (drawn_anywhere, of_all_scales, nearly_whole, mirrors):
            for at in range(6):
                length, matings = draw(chance, MOST)
                self.assertEqual(len(matings), MOST)
                self.hang_together(chance, length, matings)

    def test_straight_ones_alone(self):
        chance = random.Random(44)
        for at in range(20):
            length, matings = of_all_scales(chance, MOST)
            self.hang_together(chance, length, [mating[:3] + (0,) for mating in matings])

    def test_steps_of_sums(self):
        chance = random.Random(45)
        for many in range(2, 9):
            for at in range(5):
                self.hang_together(chance, *steps_of_sums(chance, many))

    def test_exchanges(self):
        chance = random.Random(46)
        for at in range(20):
            self.hang_together(chance, *exchange(chance))

    def test_steps_that_share_enough_places_take_one_move_each(self):
        chance = random.Random(48)
        for many in range(2, MOST + 1):
            steps = [any_scale(chance, 1, FAR // 8) for k in range(many)]
            starts = [chance.randint(0, FAR // 8) for k in range(many)]
            matings = [(at, at + step, FAR // 2, 0) for at, step in zip(starts, steps)]
            # A bare end on either side, a merge for each but one, and a fold of all.
            self.assertLessEqual(len(fold(FAR, matings)), many + 2)

    def test_rows_are_short(self):
        # Each mating costs some moves for each halving of its stretches, and a far road lets no more than sixty be.
        for length, matings in far_roads(47, 20):
            self.assertLess(len(fold(length, matings)), 10 * (len(matings) + 1) * 60)


if __name__ == "__main__":
    unittest.main()
