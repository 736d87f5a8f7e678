"""Fronts: what is refused, each of the six moves, and what is told behind them."""

import itertools
import unittest

from farmates.errors import BadMating, BadMove, BadNumber, Full
from farmates.fronts import Front
from farmates.stretches import FAR, MOST
from tests.plain import PlainFront, matings_of
from tests.rows import all_moves


def stand(front):
    """All that a front tells, in lists of the test's own, which no front can change."""
    return (front.top(), list(front.left()), list(front.led_on()))


class FrontCase(unittest.TestCase):
    def made(self, length, matings, *moves):
        front = Front(length, matings)
        for move in moves:
            self.assertIsNone(front.make(move))
        return front

    def refused(self, length, matings, *moves):
        """The last of the moves is refused, and all is as ahead."""
        front = self.made(length, matings, *moves[:-1])
        ahead = stand(front)
        with self.subTest(moves=moves), self.assertRaises(BadMove) as caught:
            front.make(moves[-1])
        self.assertIs(caught.exception.move, moves[-1])
        self.assertEqual(stand(front), ahead)


class NewFrontTest(FrontCase):
    def test_top_and_left(self):
        front = Front(9, [(5, 0, 3, 1), (0, 5, 3, 0), (4, 4, 2, 1)])
        self.assertEqual(stand(front), (9, [(0, (0, 5, 3, 1)), (1, (0, 5, 3, 0)), (2, (4, 4, 2, 1))], []))
        self.assertEqual(stand(Front(0, [])), (0, [], []))
        self.assertEqual(stand(Front(length=FAR, matings=((0, 0, FAR, 0),))), (FAR, [(0, (0, 0, FAR, 0))], []))

    def test_bad_number(self):
        for length in (-1, FAR + 1, 10 ** 29, True, False):
            # A mating that lies on no road and too many of them come behind the number.
            for matings in ([], [(0, 0, 0, 0)], [(0, 0, 1, 0)] * (MOST + 1)):
                with self.subTest(length=length), self.assertRaises(BadNumber) as caught:
                    Front(length, matings)
                self.assertIs(caught.exception.number, length)

    def test_first_bad_mating(self):
        bad = [(0, 0, 10, 0), (0, 9, 1, 0), (9, 0, 1, 0), (-1, 0, 1, 0), (0, 0, 0, 1), (0, 1, 2, 2), (0, 1, 2, -1)]
        bad += [(True, 0, 1, 0), (0, False, 1, 0), (0, 0, True, 0), (0, 0, 1, True), (0, 0, 1, False)]
        for first in bad:
            for matings in ([first], [(0, 0, 9, 1), first, (0, 0, -5, 0)], ((1, 2, 3, 1), first)):
                with self.subTest(matings=matings), self.assertRaises(BadMating) as caught:
                    Front(9, matings)
                self.assertIs(caught.exception.mating, first)

    def test_bad_mating_of_no_road(self):
        with self.assertRaises(BadMating):
            Front(0, [(0, 0, 1, 0)])

    def test_full(self):
        self.assertEqual(len(Front(5, [(0, 1, 4, 0)] * MOST).left()), MOST)
        for matings in ([(0, 1, 4, 0)] * (MOST + 1), ((0, 1, 4, 0),) * 40):
            with self.assertRaises(Full) as caught:
                Front(5, matings)
            self.assertEqual(caught.exception.most, 24)

    def test_bad_mating_goes_ahead_of_full(self):
        last = (0, 1, 5, 0)
        with self.assertRaises(BadMating) as caught:
            Front(5, [(0, 1, 4, 0)] * (MOST + 5) + [last])
        self.assertIs(caught.exception.mating, last)

    def test_matings_are_kept_as_a_copy(self):
        matings = [(3, 0, 2, 1), (0, 1, 2, 0)]
        front = Front(5, matings)
        self.assertEqual(matings, [(3, 0, 2, 1), (0, 1, 2, 0)])
        matings[0] = (0, 0, 1, 0)
        matings.append((1, 1, 1, 0))
        self.assertEqual(front.left(), [(0, (0, 3, 2, 1)), (1, (0, 1, 2, 0))])

    def test_moves_do_not_change_what_was_handed_in(self):
        matings = [(3, 0, 2, 0)]
        front = Front(5, matings)
        front.make(("fold", 0, 4))
        self.assertEqual(matings, [(3, 0, 2, 0)])


class IdleTest(FrontCase):
    def test_goes(self):
        front = self.made(9, [(0, 4, 2, 0), (3, 3, 2, 0), (0, 0, 9, 0)], ("idle", 1))
        self.assertEqual(stand(front), (9, [(0, (0, 4, 2, 0)), (2, (0, 0, 9, 0))], []))
        self.assertEqual(self.made(FAR, [(0, 0, FAR, 0)], ("idle", 0)).left(), [])

    def test_refused(self):
        self.refused(9, [(3, 3, 2, 1)], ("idle", 0))
        self.refused(9, [(3, 4, 2, 0)], ("idle", 0))
        self.refused(9, [(4, 3, 2, 0)], ("idle", 0))
        self.refused(9, [(3, 3, 1, 1)], ("idle", 0))

    def test_refused_where_it_does_not_stand(self):
        for i in (1, -1, FAR, 10 ** 29):
            self.refused(9, [(3, 3, 2, 0)], ("idle", i))
        self.refused(9, [(3, 3, 2, 0)], ("idle", 0), ("idle", 0))


class HalveTest(FrontCase):
    def halved(self, mating):
        return self.made(FAR, [mating], ("halve", 0)).left()

    def test_becomes_its_half(self):
        self.assertEqual(self.halved((2, 2, 6, 1)), [(0, (2, 5, 3, 1))])
        self.assertEqual(self.halved((2, 2, 7, 1)), [(0, (2, 6, 3, 1))])
        self.assertEqual(self.halved((2, 4, 3, 1)), [(0, (2, 5, 2, 1))])
        self.assertEqual(self.halved((4, 2, 3, 1)), [(0, (2, 5, 2, 1))])
        self.assertEqual(self.halved((2, 5, 4, 1)), [(0, (2, 6, 3, 1))])
        self.assertEqual(self.halved((0, 0, FAR, 1)), [(0, (0, FAR // 2, FAR // 2, 1))])
        self.assertEqual(self.halved((1, 0, FAR - 1, 1)), [(0, (0, FAR // 2, FAR // 2, 1))])
        self.assertEqual(self.halved((1, 1, FAR - 1, 1)), [(0, (1, FAR // 2 + 1, FAR // 2 - 1, 1))])

    def test_goes_where_nothing_is_left(self):
        self.assertEqual(self.halved((7, 7, 1, 1)), [])
        self.assertEqual(self.halved((7, 7, 2, 1)), [(0, (7, 8, 1, 1))])

    def test_top_and_led_on_stay(self):
        front = self.made(12, [(1, 1, 1, 0), (2, 2, 6, 1)], ("bare", 9), ("halve", 1))
        self.assertEqual(stand(front), (9, [(0, (1, 1, 1, 0)), (1, (2, 5, 3, 1))], [("bare", 9, 12)]))

    def test_refused(self):
        self.refused(9, [(0, 0, 4, 0)], ("halve", 0))
        self.refused(9, [(0, 1, 4, 0)], ("halve", 0))
        self.refused(9, [(0, 4, 4, 1)], ("halve", 0))
        self.refused(9, [(4, 0, 4, 1)], ("halve", 0))
        self.refused(9, [(0, 5, 4, 1)], ("halve", 0))
        self.refused(9, [(0, 3, 4, 1)], ("halve", 0), ("halve", 0))
        for i in (1, -1, FAR):
            self.refused(9, [(0, 3, 4, 1)], ("halve", i))
        self.refused(9, [(3, 3, 1, 1)], ("halve", 0), ("halve", 0))


class MergeTest(FrontCase):
    def test_becomes_one_by_the_common_part(self):
        # The stretches 0 to 11 by 4 and 2 to 15 by 6 have ten places in common.
        matings = [(0, 4, 8, 0), (2, 8, 8, 0)]
        self.assertEqual(self.made(16, matings, ("merge", 0, 1)).left(), [(0, (0, 2, 14, 0))])
        self.assertEqual(self.made(16, matings, ("merge", 1, 0)).left(), [(1, (0, 2, 14, 0))])
        self.assertEqual(self.made(16, [(8, 2, 8, 0), (4, 0, 8, 0)], ("merge", 0, 1)).left(), [(0, (0, 2, 14, 0))])

    def test_one_within_the_other(self):
        front = self.made(20, [(5, 7, 3, 0), (0, 3, 17, 0), (1, 1, 1, 1)], ("merge", 0, 1))
        self.assertEqual(stand(front), (20, [(0, (0, 1, 19, 0)), (2, (1, 1, 1, 1))], []))

    def test_equal_ones(self):
        front = self.made(8, [(0, 4, 4, 0), (0, 4, 4, 0)], ("merge", 1, 0))
        self.assertEqual(front.left(), [(1, (0, 4, 4, 0))])

    def test_far(self):
        front = self.made(FAR, [(0, 6 * 10 ** 16, FAR - 6 * 10 ** 16, 0), (1, 10 ** 17 + 1, FAR - 10 ** 17 - 1, 0)],
                          ("merge", 0, 1))
        self.assertEqual(front.left(), [(0, (0, 2 * 10 ** 16, FAR - 2 * 10 ** 16, 0))])

    def test_refused_of_one_alone(self):
        self.refused(16, [(0, 1, 15, 0)], ("merge", 0, 0))

    def test_refused_where_one_is_turned(self):
        good = (0, 2, 14, 0)
        self.made(16, [good, (0, 3, 13, 0)], ("merge", 0, 1))
        self.refused(16, [good, (0, 3, 13, 1)], ("merge", 0, 1))
        self.refused(16, [(0, 3, 13, 1), good], ("merge", 0, 1))

    def test_refused_where_a_step_is_nothing(self):
        self.refused(16, [(0, 2, 14, 0), (0, 0, 16, 0)], ("merge", 0, 1))
        self.refused(16, [(0, 2, 14, 0), (0, 0, 16, 0)], ("merge", 1, 0))

    def test_refused_where_a_step_is_more_than_its_many(self):
        self.made(16, [(0, 2, 14, 0), (0, 3, 3, 0)], ("merge", 0, 1))
        # With 0 to 7 by 5 all sixteen places give at least 2 and 5 in common, but a step of 5 leads only 3.
        self.refused(16, [(0, 2, 14, 0), (0, 5, 3, 0)], ("merge", 0, 1))
        self.refused(16, [(0, 2, 14, 0), (0, 5, 3, 0)], ("merge", 1, 0))
        self.made(16, [(0, 2, 14, 0), (0, 5, 5, 0)], ("merge", 1, 0))

    def test_refused_where_too_few_places_are_common(self):
        # 0 to 9 by 3, and by 4 from 3 or 4 on: seven or six places in common.
        self.assertEqual(self.made(20, [(0, 3, 7, 0), (3, 7, 9, 0)], ("merge", 0, 1)).left(), [(0, (0, 1, 15, 0))])
        self.refused(20, [(0, 3, 7, 0), (4, 8, 9, 0)], ("merge", 0, 1))
        self.refused(20, [(0, 3, 7, 0), (4, 8, 9, 0)], ("merge", 1, 0))
        # Just the places that one stretch alone has are not common ones.
        self.refused(20, [(0, 3, 3, 0), (0, 4, 16, 0)], ("merge", 0, 1))
        self.refused(20, [(0, 3, 3, 0), (12, 15, 3, 0)], ("merge", 0, 1))

    def test_refused_where_one_does_not_stand(self):
        matings = [(0, 2, 14, 0), (0, 3, 13, 0)]
        for i, j in [(0, 2), (2, 0), (-1, 0), (0, -1), (-2, -1), (2, 3)]:
            self.refused(16, matings, ("merge", i, j))
        self.refused(16, matings, ("merge", 0, 1), ("merge", 0, 1))
        self.refused(16, matings, ("merge", 0, 1), ("merge", 1, 0))


class LeadTest(FrontCase):
    def led(self, leader, follower, side, length=40):
        front = self.made(length, [leader, follower], ("lead", 1, side, 0))
        self.assertEqual((front.top(), front.led_on()), (length, []))
        self.assertEqual(len(front.left()), 2)
        return front.left()[1]

    def test_other_stretch_by_a_straight_one(self):
        self.assertEqual(self.led((0, 10, 10, 0), (3, 12, 4, 0), 1), (1, (2, 3, 4, 0)))
        self.assertEqual(self.led((0, 10, 10, 0), (1, 12, 4, 1), 1), (1, (1, 2, 4, 1)))
        self.assertEqual(self.led((10, 0, 10, 0), (12, 1, 4, 1), 1), (1, (1, 2, 4, 1)))

    def test_one_stretch_by_a_straight_one(self):
        self.assertEqual(self.led((0, 10, 10, 0), (12, 30, 4, 0), 0), (1, (2, 30, 4, 0)))

    def test_again_and_again_by_a_straight_one(self):
        self.assertEqual(self.led((5, 8, 30, 0), (0, 29, 4, 0), 1), (1, (0, 5, 4, 0)))
        self.assertEqual(self.led((5, 8, 30, 0), (0, 30, 8, 1), 1), (1, (0, 6, 8, 1)))
        self.assertEqual(self.led((5, 8, 30, 0), (0, 8, 1, 0), 1), (1, (0, 5, 1, 0)))
        self.assertEqual(self.led((5, 8, 30, 0), (0, 10, 1, 0), 1), (1, (0, 7, 1, 0)))
        self.assertEqual(self.led((5, 8, 30, 0), (0, 11, 1, 0), 1), (1, (0, 5, 1, 0)))

    def test_by_a_turned_one(self):
        # 10 to 19 are led back to 9 to 0.
        self.assertEqual(self.led((0, 10, 10, 1), (3, 12, 4, 0), 1), (1, (3, 4, 4, 1)))
        self.assertEqual(self.led((0, 10, 10, 1), (5, 12, 4, 1), 1), (1, (4, 5, 4, 0)))
        self.assertEqual(self.led((0, 10, 10, 1), (15, 30, 4, 1), 0), (1, (1, 30, 4, 0)))
        self.assertEqual(self.led((0, 10, 10, 1), (0, 10, 10, 1), 1), (1, (0, 0, 10, 0)))
        # Stretches apart by none are apart, too; it is led once only.
        self.assertEqual(self.led((5, 10, 5, 1), (0, 14, 1, 0), 1), (1, (0, 5, 1, 1)))

    def test_both_ends_of_the_leader(self):
        for turned, starts in [(0, (0, 7)), (1, (7, 0))]:
            self.assertEqual(self.led((0, 10, 10, turned), (20, 10, 3, 0), 0)[1][0], starts[0])
            self.assertEqual(self.led((0, 10, 10, turned), (20, 17, 3, 0), 0)[1][0], starts[1])
            self.refused(40, [(0, 10, 10, turned), (20, 9, 3, 0)], ("lead", 1, 0, 0))
            self.refused(40, [(0, 10, 10, turned), (20, 18, 3, 0)], ("lead", 1, 0, 0))
            self.refused(40, [(0, 10, 10, turned), (20, 9, 12, 0)], ("lead", 1, 0, 0))

    def test_sides_are_of_the_mating_as_it_stands(self):
        # Told as (12, 3): its lesser stretch at 3 is side 0.
        front = self.made(40, [(0, 10, 10, 0), (12, 3, 4, 0)], ("lead", 1, 1, 0))
        self.assertEqual(front.left()[1], (1, (2, 3, 4, 0)))
        self.refused(40, [(0, 10, 10, 0), (12, 3, 4, 0)], ("lead", 1, 0, 0))

    def test_far(self):
        step = 10 ** 9 + 7
        leader = (0, step, FAR - step, 0)
        told = self.led(leader, (0, FAR - 5, 5, 1), 1, length=FAR)
        self.assertEqual(told, (1, (0, (FAR - 5) % step, 5, 1)))
        half = FAR // 2
        self.assertEqual(self.led((0, half, half, 1), (1, FAR - 5, 4, 1), 1, length=FAR), (1, (1, 1, 4, 0)))

    def test_refused_by_itself(self):
        self.refused(40, [(0, 2, 10, 0)], ("lead", 0, 1, 0))
        self.refused(40, [(0, 20, 10, 0)], ("lead", 0, 1, 0))

    def test_refused_by_a_leader_that_lies_upon_itself(self):
        self.refused(40, [(0, 0, 20, 0), (3, 30, 4, 0)], ("lead", 1, 0, 0))
        self.refused(40, [(0, 0, 20, 1), (3, 30, 4, 0)], ("lead", 1, 0, 0))
        self.refused(40, [(0, 9, 10, 1), (12, 30, 4, 0)], ("lead", 1, 0, 0))
        self.made(40, [(0, 10, 10, 1), (12, 30, 4, 0)], ("lead", 1, 0, 0))
        self.made(40, [(0, 1, 10, 0), (2, 30, 4, 0)], ("lead", 1, 0, 0))

    def test_refused_sides(self):
        for side in (-1, 2, FAR):
            self.refused(40, [(0, 2, 38, 0), (4, 4, 4, 1)], ("lead", 1, side, 0))

    def test_refused_where_one_does_not_stand(self):
        matings = [(0, 2, 38, 0), (4, 4, 4, 0)]
        for j, i in [(2, 0), (-1, 0), (1, 2), (1, -2), (-1, -2)]:
            self.refused(40, matings, ("lead", j, 0, i))
        self.refused(40, matings, ("idle", 1), ("lead", 1, 0, 0))


class FoldTest(FrontCase):
    def test_straight(self):
        front = self.made(20, [(12, 2, 8, 0)], ("fold", 0, 12))
        self.assertEqual(stand(front), (12, [], [("fold", 12, 20, 2, 10, 0)]))
        front = self.made(20, [(2, 12, 8, 0)], ("fold", 0, 15))
        self.assertEqual(stand(front), (15, [(0, (2, 12, 3, 0))], [("fold", 15, 20, 2, 10, 0)]))

    def test_straight_upon_itself(self):
        front = self.made(20, [(1, 4, 16, 0)], ("fold", 0, 10))
        self.assertEqual(stand(front), (10, [(0, (1, 4, 6, 0))], [("fold", 10, 20, 1, 3, 0)]))
        front.make(("fold", 0, 4))
        self.assertEqual(stand(front), (4, [], [("fold", 10, 20, 1, 3, 0), ("fold", 4, 10, 1, 3, 0)]))

    def test_turned(self):
        front = self.made(20, [(2, 12, 8, 1)], ("fold", 0, 12))
        self.assertEqual(stand(front), (12, [], [("fold", 12, 20, 2, 0, 1)]))
        front = self.made(20, [(2, 12, 8, 1)], ("fold", 0, 15))
        self.assertEqual(stand(front), (15, [(0, (7, 12, 3, 1))], [("fold", 15, 20, 2, 0, 1)]))
        front.make(("fold", 0, 14))
        self.assertEqual(stand(front)[1:], ([(0, (8, 12, 2, 1))], [("fold", 15, 20, 2, 0, 1), ("fold", 14, 15, 7, 0, 1)]))
        self.assertEqual(self.made(20, [(5, 10, 10, 0), (0, 10, 10, 1)], ("lead", 0, 1, 1)).left()[0], (0, (0, 5, 10, 1)))

    def test_one_place(self):
        front = self.made(20, [(2, 12, 8, 1)], ("fold", 0, 19))
        self.assertEqual(stand(front), (19, [(0, (3, 12, 7, 1))], [("fold", 19, 20, 2, 0, 1)]))

    def test_others_stay(self):
        front = self.made(20, [(0, 6, 3, 1), (2, 12, 8, 0), (13, 13, 1, 1)], ("fold", 1, 14))
        self.assertEqual(front.left(), [(0, (0, 6, 3, 1)), (1, (2, 12, 2, 0)), (2, (13, 13, 1, 1))])

    def test_far(self):
        front = self.made(FAR, [(0, 7, FAR - 7, 0)], ("fold", 0, 7))
        self.assertEqual(stand(front), (7, [], [("fold", 7, FAR, 0, 7, 0)]))
        half = FAR // 2
        front = self.made(FAR, [(0, half, half, 1)], ("fold", 0, half + 1))
        self.assertEqual(stand(front), (half + 1, [(0, (half - 1, half, 1, 1))], [("fold", half + 1, FAR, 0, 0, 1)]))

    def test_refused_by_a_leader_that_lies_upon_itself(self):
        self.refused(20, [(10, 10, 10, 0)], ("fold", 0, 15))
        self.refused(20, [(10, 10, 10, 1)], ("fold", 0, 15))
        self.refused(20, [(10, 14, 6, 1)], ("fold", 0, 15))
        self.made(20, [(8, 14, 6, 1)], ("fold", 0, 15))

    def test_refused_where_it_does_not_end_at_the_top(self):
        for turned in (0, 1):
            self.refused(20, [(2, 11, 8, turned)], ("fold", 0, 12))
            self.made(20, [(2, 11, 8, turned)], ("bare", 19), ("fold", 0, 12))

    def test_refused_where_the_place_is_not_in_it(self):
        for turned in (0, 1):
            for m in (11, 20, 21, 2, 9, 0, -1, -20, FAR):
                self.refused(20, [(2, 12, 8, turned)], ("fold", 0, m))

    def test_refused_where_another_one_has_a_place(self):
        for turned in (0, 1):
            for other in [(0, 12, 3, 0), (12, 0, 3, 1), (14, 14, 1, 0), (14, 14, 1, 1), (10, 11, 4, 0), (11, 10, 4, 1)]:
                matings = [(2, 12, 8, turned), other]
                self.refused(20, matings, ("fold", 0, 14))
                self.refused(20, matings, ("fold", 0, 13))
                self.made(20, matings, ("fold", 0, 15))

    def test_refused_where_it_does_not_stand(self):
        for i in (1, -1, FAR):
            self.refused(20, [(2, 12, 8, 0)], ("fold", i, 12))
        self.refused(20, [(2, 12, 8, 0)], ("fold", 0, 12), ("fold", 0, 11))


class BareTest(FrontCase):
    def test_down_to_the_matings(self):
        front = self.made(20, [(2, 5, 4, 1)], ("bare", 15), ("bare", 9))
        self.assertEqual(stand(front), (9, [(0, (2, 5, 4, 1))], [("bare", 15, 20), ("bare", 9, 15)]))
        self.refused(20, [(2, 5, 4, 1)], ("bare", 8))
        self.refused(20, [(5, 2, 4, 0)], ("bare", 8))
        self.refused(20, [(0, 1, 1, 0), (5, 5, 4, 0)], ("bare", 8))
        self.refused(20, [(5, 5, 4, 0), (0, 1, 1, 0)], ("bare", 8))

    def test_of_no_matings(self):
        self.assertEqual(stand(self.made(FAR, [], ("bare", 0))), (0, [], [("bare", 0, FAR)]))
        self.assertEqual(self.made(FAR, [], ("bare", FAR - 1)).top(), FAR - 1)

    def test_refused(self):
        for m in (20, 21, -1, -20, FAR):
            self.refused(20, [], ("bare", m))
        self.refused(0, [], ("bare", 0))
        self.refused(0, [], ("bare", -1))
        self.refused(5, [], ("bare", 3), ("bare", 3))
        self.refused(5, [], ("bare", 3), ("bare", 4))


class TruthTest(FrontCase):
    def test_truths_among_the_numbers(self):
        rows = [
            (2, [(0, 0, 1, 0)] * 2, [("idle", False), ("idle", True)]),
            (2, [(0, 0, 1, 1)] * 2, [("halve", False), ("halve", True)]),
            (4, [(0, 1, 3, 0)] * 2, [("merge", False, 1), ("merge", 0, True), ("merge", True, False)]),
            (4, [(0, 1, 3, 0)] * 2, [("lead", True, 1, 0), ("lead", 1, True, 0), ("lead", 1, 1, False)]),
            (4, [(0, 1, 3, 0), (1, 1, 1, 1)], [("lead", 1, False, 0), ("fold", False, 2)]),
            (2, [(0, 1, 1, 0)], [("fold", 0, True)]),
            (2, [], [("bare", True), ("bare", False)]),
        ]
        for length, matings, moves in rows:
            for move in moves:
                self.made(length, matings, tuple(int(n) if isinstance(n, bool) else n for n in move))
                self.refused(length, matings, move)


class ToldListsTest(FrontCase):
    def test_told_lists_are_new(self):
        front = self.made(20, [(1, 4, 16, 0), (0, 1, 2, 1)], ("fold", 0, 10))
        ahead = stand(front)
        for told in (front.left(), front.led_on()):
            told.append("strange")
            told[0] = "strange"
        self.assertEqual(stand(front), ahead)
        front.left().clear()
        front.led_on().clear()
        self.assertEqual(stand(front), ahead)
        kept = front.led_on()
        left = front.left()
        front.make(("fold", 0, 5))
        self.assertEqual((kept, left), (ahead[2], ahead[1]))

    def test_left_rises_whatever_was_changed_first(self):
        front = self.made(40, [(0, 10, 10, 0), (12, 30, 4, 0), (3, 3, 5, 1), (0, 0, 1, 0)],
                          ("halve", 2), ("lead", 1, 0, 0), ("idle", 3))
        self.assertEqual([i for i, mating in front.left()], [0, 1, 2])

    def test_twin_goes_its_own_way(self):
        front = self.made(20, [(1, 4, 16, 0), (0, 1, 2, 1)], ("fold", 0, 10))
        ahead = stand(front)
        twin = front.twin()
        self.assertIsInstance(twin, Front)
        self.assertIsNot(twin, front)
        self.assertEqual(stand(twin), ahead)
        twin.make(("halve", 1))
        twin.make(("fold", 0, 5))
        self.assertEqual(stand(front), ahead)
        behind = stand(twin)
        self.assertNotEqual(behind, ahead)
        front.make(("fold", 0, 7))
        self.assertEqual(stand(twin), behind)

    def test_twin_keeps_what_may_be_made(self):
        twin = self.made(20, [(2, 12, 8, 0)], ("fold", 0, 15)).twin()
        with self.assertRaises(BadMove):
            twin.make(("bare", 14))
        twin.make(move=("fold", 0, 12))
        self.assertEqual(stand(twin), (12, [], [("fold", 15, 20, 2, 10, 0), ("fold", 12, 15, 2, 10, 0)]))

    def test_fronts_made_apart(self):
        matings = [(0, 4, 4, 0)]
        one, other = Front(8, matings), Front(8, matings)
        one.make(("fold", 0, 4))
        self.assertEqual(stand(other), (8, [(0, (0, 4, 4, 0))], []))


class PlainTest(unittest.TestCase):
    """Each move that can be told on short roads, held against going through the places."""

    def check(self, length, matings, moves):
        front, plain = Front(length, matings), PlainFront(length, matings)
        for move in moves:
            twin, other = front.twin(), plain.twin()
            try:
                twin.make(move)
                made = True
            except BadMove:
                made = False
            self.assertEqual(made, other.make(move), (length, matings, move))
            self.assertEqual(stand(twin), (other.top, sorted(other.left.items()), other.events),
                             (length, matings, move))

    def test_one_mating(self):
        for length in range(1, 7):
            moves = all_moves(length, range(-1, 2))
            for mating in matings_of(length):
                self.check(length, [mating], moves)

    def test_two_matings(self):
        moves = all_moves(4, range(2))
        for matings in itertools.product(matings_of(4), repeat=2):
            self.check(4, list(matings), moves)

    def test_two_straight_ones(self):
        moves = [("merge", 0, 1), ("merge", 1, 0), ("lead", 0, 1, 1), ("lead", 1, 1, 0), ("lead", 0, 0, 1)]
        straight = [mating for mating in matings_of(8) if mating[0] <= mating[1] and not mating[3]]
        for matings in itertools.product(straight, repeat=2):
            self.check(8, list(matings), moves)

    def test_a_turned_leader(self):
        moves = [("lead", 0, 0, 1), ("lead", 0, 1, 1), ("fold", 1, 5), ("fold", 1, 6)]
        turned = [mating for mating in matings_of(7) if mating[0] < mating[1] and mating[3]]
        for matings in itertools.product(matings_of(5), turned):
            self.check(7, list(matings), moves)


if __name__ == "__main__":
    unittest.main()
