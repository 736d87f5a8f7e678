"""Rows of moves: what the judge tells, and that right rows tell the families of the road."""

import random
import unittest

from farmates.errors import BadMating, BadNumber, Full
from farmates.fronts import Front, judge
from farmates.stretches import FAR, MOST, common, led, moved, swelled
from tests.plain import bare_places, families, led_home, matings_of, plain_judge, turned_families
from tests.rows import finish, right_row, wild_row
from tests.samples import some_roads


def events_of(length, matings, moves):
    front = Front(length, matings)
    for move in moves:
        front.make(move)
    return front.led_on()


class JudgeTest(unittest.TestCase):
    ROAD = (20, [(1, 4, 16, 0), (0, 0, 3, 1), (5, 8, 3, 0)])
    ROW = [("merge", 0, 2), ("fold", 0, 4), ("halve", 1), ("bare", 3), ("fold", 1, 2), ("bare", 0)]

    def told(self, moves):
        return judge(self.ROAD[0], self.ROAD[1], moves)

    def test_right_rows(self):
        self.assertIsNone(self.told(self.ROW))
        self.assertIsNone(judge(1, [(0, 0, 1, 0)], [("idle", 0), ("bare", 0)]))
        self.assertIsNone(judge(0, [], []))
        self.assertIsNone(judge(0, (), ()))
        self.assertIsNone(judge(length=3, matings=(), moves=(("bare", 1), ("bare", 0))))

    def test_cut_at_the_end(self):
        for row in (self.ROW, right_row(*self.ROAD)):
            for many in range(len(row)):
                self.assertEqual(self.told(row[:many]), many)
        self.assertEqual(judge(1, [], []), 0)
        self.assertEqual(judge(FAR, [], [("bare", 1)]), 1)

    def test_a_move_left_out_doubled_or_exchanged(self):
        row = self.ROW
        self.assertEqual(self.told(row[1:]), 0)
        self.assertEqual(self.told(row[:2] + row[3:]), 3)
        self.assertEqual(self.told(row[:1] + row), 1)
        self.assertEqual(self.told([row[1], row[0]] + row[2:]), 0)
        # The two orders of a halving and a fold that does not touch it are both right.
        self.assertIsNone(self.told([row[2]] + row[:2] + row[3:]))

    def test_more_behind_the_end(self):
        row = right_row(*self.ROAD)
        for move in [("bare", 0), ("bare", -1), ("idle", 0), ("halve", 1), ("fold", 0, 0), row[0], row[-1]]:
            self.assertEqual(self.told(row + [move]), len(row))
        self.assertEqual(judge(0, [], [("bare", 0)]), 0)

    def test_first_of_several_wrong_moves(self):
        row = right_row(*self.ROAD)
        for at in range(len(row) + 1):
            self.assertEqual(self.told(row[:at] + [("bare", -1), ("idle", 77)] + row[at:]), at)

    def test_truths(self):
        self.assertIsNone(judge(1, [], [("bare", 0)]))
        self.assertEqual(judge(1, [], [("bare", False)]), 0)
        self.assertEqual(judge(2, [(0, 1, 1, 0)], [("fold", False, 1), ("bare", 0)]), 0)

    def test_refused_as_a_front_is(self):
        for length in (-1, FAR + 1, True, False):
            with self.assertRaises(BadNumber) as caught:
                judge(length, [(0, 0, 0, 0)], [("bare", 0)])
            self.assertIs(caught.exception.number, length)
        with self.assertRaises(BadMating) as caught:
            judge(3, [(0, 1, 2, 0), (0, 2, 2, 0), (9, 9, 9, 9)] * MOST, [])
        self.assertEqual(caught.exception.mating, (0, 2, 2, 0))
        with self.assertRaises(Full) as caught:
            judge(3, [(0, 1, 2, 0)] * (MOST + 1), [])
        self.assertEqual(caught.exception.most, MOST)

    def test_nothing_handed_in_is_changed(self):
        length, matings = self.ROAD
        matings, row = list(matings), right_row(*self.ROAD)
        kept = list(row)
        self.assertIsNone(judge(length, matings, row))
        self.assertEqual((matings, row), (self.ROAD[1], kept))

    def test_changed_rows(self):
        chance = random.Random(5)
        wrong = 0
        for length, matings in some_roads(1, 60, 10, 4):
            row = wild_row(chance, length, matings)
            self.assertIsNone(judge(length, matings, row), (length, matings, row))
            for at in range(len(row)):
                twice = row[:at] + [row[at]] + row[at:]
                without = row[:at] + row[at + 1:]
                swapped = row[:at] + row[at + 1:at + 2] + [row[at]] + row[at + 2:]
                put_in = row[:at] + [chance.choice(row)] + row[at:]
                strange = row[:at] + [("idle", len(matings))] + row[at:]
                for other in (twice, without, swapped, put_in, strange, row[:at]):
                    told = judge(length, matings, other)
                    self.assertEqual(told, plain_judge(length, matings, other), (length, matings, other))
                    wrong += told is not None
        # Else nearly all of these rows would be right, and little would be shown.
        self.assertGreater(wrong, 1000)

    def test_a_far_row(self):
        matings = [(0, 12, FAR - 12, 0), (3, 21, FAR - 21, 0)]
        row = [("merge", 0, 1), ("fold", 0, 6), ("bare", 0)]
        self.assertIsNone(judge(FAR, matings, row))
        self.assertEqual(judge(FAR, matings, row[1:]), 0)
        self.assertEqual(judge(FAR, matings, row[:1] + row[2:]), 1)
        self.assertEqual(judge(FAR, matings, row[:2]), 2)
        self.assertEqual(judge(FAR, matings, [row[0], ("fold", 0, 5), row[2]]), 1)
        self.assertEqual(judge(FAR, matings, [row[0], ("fold", 0, 7), row[2]]), 2)


class FamiliesTest(unittest.TestCase):
    def check(self, length, matings, moves):
        events = events_of(length, matings, moves)
        told = [led_home(events, place) for place in range(length)]
        expected = families(length, matings)
        self.assertEqual(told, expected, (length, matings, moves))
        bare = [p for event in events if event[0] == "bare" for p in range(event[1], event[2])]
        self.assertEqual(sorted(bare), sorted(set(expected)), (length, matings, moves))

    def test_single_matings(self):
        for length in range(1, 8):
            for mating in matings_of(length):
                self.check(length, [mating], right_row(length, [mating]))

    def test_short_roads(self):
        for length, matings in some_roads(2, 500, 16, 6):
            self.check(length, matings, right_row(length, matings))

    def test_many_matings(self):
        for length, matings in some_roads(3, 20, 60, MOST):
            self.check(length, matings, right_row(length, matings))

    def test_any_right_row_tells_the_same(self):
        chance = random.Random(7)
        for length, matings in some_roads(4, 150, 12, 5):
            self.check(length, matings, wild_row(chance, length, matings))

    def test_rows_with_all_moves(self):
        chance = random.Random(8)
        kinds = set()
        for length, matings in some_roads(6, 80, 14, 3):
            periods = [(at, at + step, length - at - step, 0) for at, step in ((0, 2), (1, 3)) if length > at + step]
            matings = matings + periods
            row = wild_row(chance, length, matings)
            kinds.update(move[0] for move in row)
            self.check(length, matings, row)
        self.assertEqual(kinds, {"idle", "halve", "merge", "lead", "fold", "bare"})

    def test_halfway_nothing_is_lost(self):
        # The folds so far, and the matings that stand, keep the families of the road.
        chance = random.Random(9)
        for length, matings in some_roads(10, 60, 10, 4):
            front = Front(length, matings)
            for move in wild_row(chance, length, matings):
                front.make(move)
                below = families(front.top(), [mating for i, mating in front.left()])
                homes = [led_home(front.led_on(), place) for place in range(length)]
                told = [below[home] if home < front.top() else home for home in homes]
                self.assertEqual(told, families(length, matings), (length, matings, move))


class FarFamiliesTest(unittest.TestCase):
    def test_no_matings(self):
        self.assertEqual(events_of(FAR, [], right_row(FAR, [])), [("bare", 0, FAR)])

    def test_periods(self):
        for one, other in [(6, 10), (10 ** 9, 15 * 10 ** 8), (2 ** 50, 6 ** 20), (10 ** 17 + 3, 10 ** 17 + 9)]:
            matings = [(0, one, FAR - one, 0), (0, other, FAR - other, 0)]
            events = events_of(FAR, matings, right_row(FAR, matings))
            step = common(one, other)
            self.assertEqual(bare_places(events), step)
            for place in (0, step - 1, step, FAR // 3, FAR - 1):
                self.assertEqual(led_home(events, place), place % step)

    def test_mirrors_make_a_period(self):
        # Two mirrors whose middles lie k apart make a period of 2 k.
        matings = [(0, 0, FAR, 1), (10, 10, FAR - 10, 1)]
        events = events_of(FAR, matings, right_row(FAR, matings))
        self.assertEqual(bare_places(events), 5)
        self.assertEqual([led_home(events, place) for place in range(10)], [0, 1, 2, 3, 4, 4, 3, 2, 1, 0])

    def test_swelled_short_roads(self):
        # A short road swelled to the far end has families that the short one tells.
        for length, matings in some_roads(11, 120, 12, 5):
            times = FAR // length
            far = [swelled(mating, times) for mating in matings]
            row = finish(Front(times * length, far), [])
            self.assertIsNone(judge(times * length, far, row))
            events = events_of(times * length, far, row)
            found, about = turned_families(length, matings)
            leasts = {least for least, turned in found}
            self.assertEqual(bare_places(events),
                             sum((times + 1) // 2 if least in about else times for least in leasts))
            for place in range(length):
                for inner in (0, 1, times // 3, times // 2, times - 2, times - 1):
                    self.assertEqual(led_home(events, times * place + inner),
                                     self.far_least(found[place], about, times, inner), (length, matings))

    def far_least(self, home, about, times, inner):
        least, turned = home
        if turned:
            inner = times - 1 - inner
        if least in about:
            inner = min(inner, times - 1 - inner)
        return times * least + inner

    def test_short_roads_at_the_far_end(self):
        for length, matings in some_roads(12, 60, 10, 4):
            shift = FAR - length
            far = [moved(mating, shift) for mating in matings]
            events = events_of(FAR, far, right_row(FAR, far))
            told = [led_home(events, place + shift) - shift for place in range(length)]
            self.assertEqual(told, families(length, matings))
            self.assertEqual(led_home(events, 12345), 12345)
            self.assertEqual(bare_places(events), shift + len(set(told)))

    def test_far_mates_are_kin(self):
        chance = random.Random(13)
        for at in range(40):
            matings = []
            for k in range(chance.randint(1, 5)):
                many = chance.randint(1, FAR)
                one, other = chance.randint(0, FAR - many), chance.randint(0, FAR - many)
                matings.append((one, other, many, chance.randint(0, 1)))
            row = right_row(FAR, matings)
            self.assertIsNone(judge(FAR, matings, row))
            events = events_of(FAR, matings, row)
            for mating in matings:
                for k in (0, 1, mating[2] // 2, mating[2] - 1):
                    place = mating[0] + min(k, mating[2] - 1)
                    home = led_home(events, place)
                    self.assertEqual(led_home(events, led(mating, place)), home)
                    self.assertLessEqual(home, place)


if __name__ == "__main__":
    unittest.main()
