"""Very roads of a hall: how often they were folded and whether they keep a folding, through deeds and steps."""

import unittest

from farmates.errors import BadNumber, NoRoad
from farmates.hall import Hall
from farmates.stretches import FAR

# Deeds that leave road a, of 9 places, as it was.
IDLE = [("grow", "a", 0), ("trim", "a", 9), ("swell", "a", 1), ("behind", "a", "none")]
# Deeds that make it another one.
CHANGING = [("mate", "a", 0, 0, 1, 0), ("strike", "a", 1), ("grow", "a", 1), ("trim", "a", 8), ("swell", "a", 2),
            ("behind", "a", "b"), ("behind", "a", "a")]


def asked_hall():
    """A hall whose road a was folded once and keeps the folding; b and none were not asked."""
    hall = Hall()
    hall.together([("lay", "a", 9), ("mate", "a", 0, 3, 6, 0), ("lay", "b", 4), ("lay", "none", 0)])
    assert hall.ask("a") == 3
    return hall


class FoldedTest(unittest.TestCase):
    def told(self, hall, name, folded, keeps):
        self.assertEqual(hall.folded(name), folded)
        self.assertIs(hall.keeps(name), keeps)

    def test_asked_once(self):
        hall = asked_hall()
        self.told(hall, "a", 1, True)
        self.told(hall, "b", 0, False)
        self.assertEqual([hall.ask("a") for k in range(3)], [3, 3, 3])
        self.told(hall, "a", 1, True)
        self.assertEqual((hall.ask("none"), hall.ask("b")), (0, 4))
        self.told(hall, "none", 1, True)

    def test_far(self):
        hall = Hall()
        hall.together([("lay", "a", FAR), ("mate", "a", 0, 12, FAR - 12, 0), ("mate", "a", 0, 21, FAR - 21, 0)])
        self.assertEqual(hall.ask("a"), 3)
        hall.do(("grow", "a", 0))
        self.assertEqual(hall.ask("a"), 3)
        self.told(hall, "a", 1, True)

    def test_deeds_that_leave_it_as_it_was(self):
        hall = asked_hall()
        for deed in IDLE:
            hall.do(deed)
            self.told(hall, "a", 1, True)
        hall.together(IDLE)
        self.told(hall, "a", 1, True)
        self.assertEqual((hall.ask("a"), hall.steps()), (3, (6, 0)))
        # The very one: what it is asked now it knows in what stood ahead, too.
        other = Hall()
        other.do(("lay", "a", 9))
        other.do(("grow", "a", 0))
        other.ask("a")
        other.undo()
        self.told(other, "a", 1, True)

    def test_each_that_leaves_it_as_it_was_lets_it_be_the_very_one(self):
        for deed in IDLE:
            hall = Hall()
            hall.together([("lay", "a", 9), ("mate", "a", 0, 3, 6, 0), ("lay", "none", 0)])
            hall.do(deed)
            hall.ask("a")
            hall.undo()
            self.told(hall, "a", 1, True)
            hall.redo()
            self.told(hall, "a", 1, True)

    def test_a_road_of_no_place(self):
        hall = asked_hall()
        hall.ask("none")
        for deed in [("grow", "none", 0), ("trim", "none", 0), ("swell", "none", 10 ** 29), ("behind", "none", "none")]:
            hall.do(deed)
            self.told(hall, "none", 1, True)
        hall.do(("behind", "none", "b"))
        self.told(hall, "none", 1, False)

    def test_deeds_that_change_it(self):
        for deed in CHANGING:
            hall = asked_hall()
            hall.do(deed)
            self.told(hall, "a", 1, False)
            self.told(hall, "b", 0, False)
            hall.ask("a")
            self.told(hall, "a", 2, True)
            hall.undo()
            self.told(hall, "a", 1, True)
            hall.redo()
            self.told(hall, "a", 2, True)

    def test_deeds_on_other_roads(self):
        hall = asked_hall()
        for deed in [("grow", "b", 1), ("behind", "b", "a"), ("copy", "a", "c"), ("clear", "b"), ("lay", "b", 1)]:
            hall.do(deed)
            self.told(hall, "a", 1, True)

    def test_undone_ahead_of_being_asked(self):
        hall = Hall()
        hall.do(("lay", "a", 9))
        hall.do(("grow", "a", 1))
        hall.ask("a")
        hall.undo()
        self.told(hall, "a", 0, False)
        hall.ask("a")
        hall.do(("grow", "a", 2))
        self.told(hall, "a", 1, False)

    def test_a_road_that_comes_back_has_the_count_that_it_had(self):
        hall = asked_hall()
        hall.do(("grow", "a", 1))
        hall.ask("a")
        hall.do(("grow", "a", 1))
        hall.ask("a")
        self.told(hall, "a", 3, True)
        hall.undo()
        self.told(hall, "a", 2, True)
        hall.undo()
        self.told(hall, "a", 1, True)
        hall.redo()
        hall.redo()
        self.told(hall, "a", 3, True)

    def test_changed_and_changed_back_in_one_step(self):
        for deeds in ([("grow", "a", 1), ("trim", "a", 9)], [("mate", "a", 0, 0, 1, 0), ("strike", "a", 2)],
                      [("behind", "a", "b"), ("trim", "a", 9)], [("grow", "a", 1), ("grow", "a", 0), ("trim", "a", 9)]):
            hall = asked_hall()
            ahead = hall.road("a")
            hall.together(deeds)
            self.assertEqual(hall.road("a"), ahead)
            self.told(hall, "a", 1, False)
            hall.ask("a")
            self.told(hall, "a", 2, True)
            hall.undo()
            self.told(hall, "a", 1, True)

    def test_changed_back_in_two_steps(self):
        hall = asked_hall()
        hall.do(("grow", "a", 1))
        hall.do(("trim", "a", 9))
        self.told(hall, "a", 1, False)

    def test_copies(self):
        hall = asked_hall()
        hall.do(("copy", "a", "c"))
        self.told(hall, "c", 1, True)
        hall.do(("copy", "b", "d"))
        self.told(hall, "d", 0, False)
        hall.ask("d")
        self.told(hall, "b", 0, False)
        hall.do(("grow", "a", 1))
        hall.ask("a")
        self.told(hall, "c", 1, True)
        hall.do(("grow", "c", 1))
        self.told(hall, "a", 2, True)
        self.told(hall, "c", 1, False)

    def test_a_copy_is_none_of_the_very_ones(self):
        hall = Hall()
        hall.do(("lay", "a", 9))
        hall.do(("copy", "a", "c"))
        hall.ask("c")
        self.told(hall, "a", 0, False)
        hall.ask("a")
        hall.do(("clear", "c"))
        hall.do(("copy", "a", "c"))
        self.told(hall, "c", 1, True)

    def test_cleared_and_laid_anew(self):
        hall = asked_hall()
        hall.together([("clear", "a"), ("lay", "a", 9), ("mate", "a", 0, 3, 6, 0)])
        self.told(hall, "a", 0, False)
        hall.undo()
        self.told(hall, "a", 1, True)
        hall.do(("clear", "a"))
        with self.assertRaises(NoRoad):
            hall.folded("a")
        hall.undo()
        self.told(hall, "a", 1, True)

    def test_refused_steps(self):
        hall = asked_hall()
        for deeds in ([("grow", "a", -1)], [("grow", "a", 1), ("trim", "a", 9), ("trim", "a", 10)]):
            with self.assertRaises(BadNumber):
                hall.together(deeds)
            self.told(hall, "a", 1, True)

    def test_twins_of_roads_ask_for_themselves(self):
        hall = Hall()
        hall.do(("lay", "a", 9))
        hall.road("a").count()
        self.told(hall, "a", 0, False)
        hall.ask("a")
        road = hall.road("a")
        road.grow(1)
        road.count()
        self.assertEqual((road.folded(), hall.folded("a")), (2, 1))


if __name__ == "__main__":
    unittest.main()
