"""Halls: deeds and their refusals, several as one step, undo and redo, equality and twins."""

import random
import unittest

from farmates.errors import BadMating, BadName, BadNumber, Full, NoMating, NoRoad, NothingLeft, Taken
from farmates.hall import ROADS, Hall
from farmates.roads import Road
from farmates.stretches import FAR, MOST
from tests.deeds import BAD_NAMES, exact, refusal, some_deed, stand
from tests.plain_hall import PlainHall
from tests.samples import road_of

LETTERS = "abcdefgh"


def hall_with(*deeds, most=ROADS):
    hall = Hall(most=most)
    for deed in deeds:
        hall.do(deed)
    return hall


def roads_of(hall):
    return {name: (hall.road(name).length(), hall.road(name).matings()) for name in hall.names()}


class HallCase(unittest.TestCase):
    def refused(self, hall, deed, error, **fields):
        """The deed is refused with this error and these fields, by do and by together, and all is as ahead."""
        ahead = stand(hall)
        first = [("swell", name, 1) for name in hall.names()]
        for do in (hall.do, lambda told: hall.together([told]), lambda told: hall.together(first + [told])):
            with self.assertRaises(error) as caught:
                do(deed)
            self.assertIs(type(caught.exception), error)
            self.assertEqual(caught.exception.word, error.__name__)
            for name in fields:
                self.assertEqual(exact(getattr(caught.exception, name)), exact(fields[name]))
            self.assertEqual(stand(hall), ahead)


class NewHallTest(HallCase):
    def test_empty(self):
        hall = Hall()
        self.assertEqual((stand(hall), repr(hall), ROADS), (([], {}, (0, 0)), "Hall()", 6))
        with self.assertRaises(TypeError):
            Hall(3)

    def test_halls_made_apart(self):
        one, other = Hall(), Hall()
        one.do(("lay", "a", 5))
        self.assertEqual(stand(other), ([], {}, (0, 0)))

    def test_deeds_return_nothing(self):
        hall = Hall()
        self.assertIsNone(hall.do(("lay", "a", 5)))
        self.assertIsNone(hall.together([("grow", "a", 1), ("trim", "a", 5)]))
        self.assertIsNone(hall.together([]))
        self.assertIsNone(hall.undo())
        self.assertIsNone(hall.redo())


class DeedsTest(HallCase):
    """Each of the nine kinds, with the words and fields of its refusals in their order."""

    def test_lay(self):
        hall = Hall()
        for at, (name, length) in enumerate([("b", 0), ("a", FAR), ("zzzzzz", 7), ("ba", 1)]):
            hall.do(("lay", name, length))
            self.assertEqual((hall.road(name), len(hall)), (Road(length), at + 1))
        self.assertEqual(hall.names(), ["a", "b", "ba", "zzzzzz"])
        self.assertEqual((hall.folded("a"), hall.keeps("a")), (0, False))

    def test_lay_refused(self):
        hall = hall_with(("lay", "a", 5))
        for name in BAD_NAMES:
            self.refused(hall, ("lay", name, -1), BadName, name=name)
        for length in (-1, FAR + 1, 10 ** 29, True, False):
            self.refused(hall, ("lay", "b", length), BadNumber, number=length)
            self.refused(hall, ("lay", "a", length), Taken, name="a")
        full = hall_with(("lay", "a", 5), ("lay", "b", 5), most=2)
        self.refused(full, ("lay", "c", -1), Full, most=2)
        self.refused(full, ("lay", "b", -1), Taken, name="b")
        self.refused(full, ("lay", "B", -1), BadName, name="B")

    def test_halls_for_one_to_six_roads(self):
        for most in range(1, 7):
            hall = Hall(most=most)
            for name in LETTERS[:most]:
                hall.do(("lay", name, 3))
            self.assertEqual(len(hall), most)
            self.refused(hall, ("lay", LETTERS[most], 3), Full, most=most)
            self.refused(hall, ("copy", "a", LETTERS[most]), Full, most=most)
            hall.do(("clear", "a"))
            hall.do(("lay", LETTERS[most], 3))
            self.assertEqual(hall.names(), list(LETTERS[1:most + 1]))

    def test_clear(self):
        hall = hall_with(("lay", "a", 5), ("lay", "b", 6), ("clear", "a"))
        self.assertEqual((hall.names(), hall.road("b")), (["b"], Road(6)))
        hall.do(("lay", "a", 7))
        self.assertEqual(hall.road("a"), Road(7))
        for name in ["c"] + BAD_NAMES:
            self.refused(hall, ("clear", name), NoRoad, name=name)

    def test_copy(self):
        hall = hall_with(("lay", "a", 5), ("mate", "a", 0, 1, 2, 1), ("mate", "a", 0, 2, 2, 0), ("strike", "a", 1))
        hall.do(("copy", "a", "b"))
        self.assertEqual(roads_of(hall), {name: (5, [(2, (0, 2, 2, 0))]) for name in "ab"})
        hall.do(("grow", "a", 1))
        hall.do(("strike", "b", 2))
        self.assertEqual(roads_of(hall), {"a": (6, [(2, (0, 2, 2, 0))]), "b": (5, [])})

    def test_copy_refused(self):
        hall = hall_with(("lay", "a", 5), ("lay", "b", 5), most=2)
        self.refused(hall, ("copy", "c", "B"), NoRoad, name="c")
        self.refused(hall, ("copy", "", "b"), NoRoad, name="")
        for name in BAD_NAMES:
            self.refused(hall, ("copy", "a", name), BadName, name=name)
        self.refused(hall, ("copy", "a", "b"), Taken, name="b")
        self.refused(hall, ("copy", "a", "a"), Taken, name="a")
        self.refused(hall, ("copy", "a", "c"), Full, most=2)

    def test_mate_and_strike(self):
        hall = hall_with(("lay", "a", 9), ("lay", "b", 9))
        hall.do(("mate", "a", 5, 0, 3, 1))
        hall.do(("mate", "a", 0, 1, 8, 0))
        self.assertEqual(roads_of(hall), {"a": (9, [(1, (5, 0, 3, 1)), (2, (0, 1, 8, 0))]), "b": (9, [])})
        hall.do(("strike", "a", 1))
        hall.do(("mate", "a", 0, 0, 9, 1))
        self.assertEqual(hall.road("a").matings(), [(2, (0, 1, 8, 0)), (3, (0, 0, 9, 1))])

    def test_mate_and_strike_refused(self):
        hall = hall_with(("lay", "a", 9), ("mate", "a", 0, 1, 2, 0))
        for mating in [(0, 0, 10, 0), (-1, 0, 1, 0), (0, 0, 0, 1), (0, 1, 2, 2), (True, 0, 1, 0), (0, False, 1, 0),
                       (0, 0, True, 0), (0, 0, 1, True), (10 ** 29, 0, 1, 0)]:
            self.refused(hall, ("mate", "a") + mating, BadMating, mating=mating)
            self.refused(hall, ("mate", "b") + mating, NoRoad, name="b")
        for number in (0, 2, -1, True, False, 10 ** 29):
            self.refused(hall, ("strike", "a", number), NoMating, number=number)
            self.refused(hall, ("strike", "b", number), NoRoad, name="b")
        hall.together([("mate", "a", 0, 1, 1, 0)] * (MOST - 1))
        self.refused(hall, ("mate", "a", 0, 1, 1, 0), Full, most=24)
        self.refused(hall, ("mate", "a", 0, 1, 9, 0), BadMating, mating=(0, 1, 9, 0))

    def test_grow_trim_swell(self):
        hall = hall_with(("lay", "a", 9), ("mate", "a", 5, 0, 3, 1))
        hall.do(("grow", "a", 2))
        self.assertEqual(roads_of(hall), {"a": (11, [(1, (5, 0, 3, 1))])})
        hall.do(("trim", "a", 7))
        self.assertEqual(roads_of(hall), {"a": (7, [(1, (5, 1, 2, 1))])})
        hall.do(("swell", "a", 3))
        self.assertEqual(roads_of(hall), {"a": (21, [(1, (15, 3, 6, 1))])})
        hall.do(("grow", "a", FAR - 21))
        self.assertEqual(hall.road("a").length(), FAR)
        hall.do(("trim", "a", 0))
        hall.do(("swell", "a", 10 ** 29))
        self.assertEqual(roads_of(hall), {"a": (0, [])})

    def test_grow_trim_swell_refused(self):
        hall = hall_with(("lay", "a", 9), ("mate", "a", 5, 0, 3, 1))
        for word, numbers in [("grow", (-1, FAR - 8, True, False)), ("trim", (-1, 10, True, False)),
                              ("swell", (0, -1, FAR // 9 + 1, True, False, 10 ** 29))]:
            for number in numbers:
                self.refused(hall, (word, "a", number), BadNumber, number=number)
                self.refused(hall, (word, "b", number), NoRoad, name="b")
                self.refused(hall, (word, "A", number), NoRoad, name="A")

    def test_behind(self):
        hall = hall_with(("lay", "a", 9), ("mate", "a", 5, 0, 3, 1), ("lay", "b", 2), ("mate", "b", 0, 1, 1, 0))
        hall.do(("behind", "a", "b"))
        self.assertEqual(roads_of(hall), {"a": (11, [(1, (5, 0, 3, 1)), (2, (9, 10, 1, 0))]), "b": (2, [(1, (0, 1, 1, 0))])})
        hall.do(("behind", "b", "b"))
        self.assertEqual(hall.road("b").matings(), [(1, (0, 1, 1, 0)), (2, (2, 3, 1, 0))])

    def test_behind_refused(self):
        hall = hall_with(("lay", "a", 9), ("lay", "b", FAR), ("lay", "c", 2))
        self.refused(hall, ("behind", "x", "y"), NoRoad, name="x")
        self.refused(hall, ("behind", "a", "y"), NoRoad, name="y")
        self.refused(hall, ("behind", "x", "a"), NoRoad, name="x")
        self.refused(hall, ("behind", "a", "b"), BadNumber, number=FAR + 9)
        self.refused(hall, ("behind", "b", "a"), BadNumber, number=FAR + 9)
        self.refused(hall, ("behind", "b", "b"), BadNumber, number=2 * FAR)
        hall.together([("mate", "a", 0, 1, 1, 0)] * 13 + [("mate", "c", 0, 1, 1, 0)] * 12)
        self.refused(hall, ("behind", "a", "c"), Full, most=24)
        self.refused(hall, ("behind", "a", "a"), Full, most=24)
        hall.do(("mate", "b", 0, 1, 1, 0))
        self.refused(hall, ("behind", "a", "b"), BadNumber, number=FAR + 9)

    def test_no_road(self):
        hall = hall_with(("lay", "a", 9))
        for ask in (hall.road, hall.ask, hall.folded, hall.keeps):
            for name in ["b"] + BAD_NAMES:
                with self.assertRaises(NoRoad) as caught:
                    ask(name)
                self.assertEqual((caught.exception.name, caught.exception.word), (name, "NoRoad"))


class TogetherTest(HallCase):
    def test_several_as_one_step(self):
        hall = Hall()
        hall.together([("lay", "a", 5), ("mate", "a", 0, 1, 4, 0), ("copy", "a", "b"), ("behind", "b", "a"), ("clear", "a")])
        self.assertEqual(roads_of(hall), {"b": (10, [(1, (0, 1, 4, 0)), (2, (5, 6, 4, 0))])})
        self.assertEqual(hall.steps(), (1, 0))
        hall.undo()
        self.assertEqual((hall.names(), hall.steps()), ([], (0, 1)))
        hall.redo()
        self.assertEqual(hall.names(), ["b"])

    def test_a_tuple_of_deeds(self):
        hall = Hall()
        hall.together((("lay", "a", 5), ("grow", "a", 1)))
        self.assertEqual((roads_of(hall), hall.steps()), ({"a": (6, [])}, (1, 0)))

    def test_of_none_nothing_is_done(self):
        hall = hall_with(("lay", "a", 5), ("lay", "b", 5))
        hall.undo()
        for none in ([], ()):
            hall.together(none)
            self.assertEqual((hall.names(), hall.steps()), (["a"], (1, 1)))
        hall.redo()
        self.assertEqual(hall.names(), ["a", "b"])

    def test_all_or_none(self):
        hall = hall_with(("lay", "a", 5), ("mate", "a", 0, 1, 4, 0), ("lay", "b", 3))
        hall.undo()
        hall.ask("a")
        ahead = stand(hall)
        good = [("grow", "a", 3), ("lay", "c", 2), ("strike", "a", 1), ("copy", "a", "d"), ("clear", "a"), ("lay", "a", 9)]
        for at in range(len(good) + 1):
            deeds = good[:at] + [("trim", "zz", 0)] + good[at:] + [("lay", "C", 0)]
            kept = list(deeds)
            with self.assertRaises(NoRoad) as caught:
                hall.together(deeds)
            self.assertEqual(caught.exception.name, "zz")
            self.assertEqual((stand(hall), deeds), (ahead, kept))
        hall.redo()
        self.assertEqual(hall.names(), ["a", "b"])

    def test_the_first_that_is_refused(self):
        hall = hall_with(("lay", "a", 5), most=2)
        for deeds, word in [
            ([("lay", "b", 1), ("lay", "c", 1), ("lay", "C", 1)], ("Full", 2)),
            ([("clear", "a"), ("grow", "a", 1), ("lay", "C", 1)], ("NoRoad", "a")),
            ([("lay", "b", 1), ("lay", "b", 1)], ("Taken", "b")),
            ([("trim", "a", 2), ("mate", "a", 0, 1, 2, 0)], ("BadMating", (0, 1, 2, 0))),
        ]:
            ahead = stand(hall)
            self.assertEqual(refusal(lambda: hall.together(deeds)), word)
            self.assertEqual(stand(hall), ahead)

    def test_lists_handed_in_stay_and_are_not_kept(self):
        hall = Hall()
        deeds = [("lay", "a", 5), ("lay", "b", 6)]
        hall.together(deeds)
        self.assertEqual(deeds, [("lay", "a", 5), ("lay", "b", 6)])
        deeds[0] = ("lay", "q", 9)
        deeds.clear()
        hall.undo()
        hall.redo()
        self.assertEqual(hall.names(), ["a", "b"])


class StepsTest(HallCase):
    def test_undo_and_redo(self):
        hall = Hall()
        deeds = [("lay", "a", 5), ("mate", "a", 0, 1, 4, 0), ("lay", "b", 3), ("grow", "b", 0), ("clear", "a"), ("swell", "b", 2)]
        states = [roads_of(hall)]
        for at, deed in enumerate(deeds):
            self.assertEqual(hall.steps(), (at, 0))
            hall.do(deed)
            states.append(roads_of(hall))
        for at in range(len(deeds), 0, -1):
            self.assertEqual((roads_of(hall), hall.steps()), (states[at], (at, len(deeds) - at)))
            hall.undo()
        self.assertEqual((roads_of(hall), hall.steps()), ({}, (0, 6)))
        for at in range(1, len(deeds) + 1):
            hall.redo()
            self.assertEqual((roads_of(hall), hall.steps()), (states[at], (at, len(deeds) - at)))

    def test_nothing_left(self):
        hall = Hall()
        for do in (hall.undo, hall.redo):
            with self.assertRaises(NothingLeft) as caught:
                do()
            self.assertEqual(caught.exception.word, "NothingLeft")
        hall.do(("lay", "a", 5))
        self.assertEqual(refusal(hall.redo), ("NothingLeft",))
        hall.undo()
        self.assertEqual(refusal(hall.undo), ("NothingLeft",))
        self.assertEqual(hall.steps(), (0, 1))
        hall.redo()
        self.assertEqual((refusal(hall.redo), hall.names()), (("NothingLeft",), ["a"]))

    def test_until_another_step_is_done(self):
        hall = hall_with(("lay", "a", 5), ("lay", "b", 5), ("lay", "c", 5))
        hall.undo()
        hall.undo()
        self.assertEqual(hall.steps(), (1, 2))
        self.assertEqual(refusal(lambda: hall.do(("lay", "a", 5))), ("Taken", "a"))
        self.assertEqual(hall.steps(), (1, 2))
        hall.do(("grow", "a", 0))
        self.assertEqual((hall.steps(), refusal(hall.redo)), ((2, 0), ("NothingLeft",)))
        hall.undo()
        hall.undo()
        self.assertEqual((hall.names(), hall.steps()), ([], (0, 2)))

    def test_questions_are_no_steps(self):
        hall = hall_with(("lay", "a", 5), ("lay", "b", 5))
        hall.undo()
        hall.ask("a"), hall.folded("a"), hall.keeps("a"), hall.road("a"), hall.names(), hall.twin(), len(hall), repr(hall)
        self.assertEqual(hall.steps(), (1, 1))
        self.assertIs(type(hall.steps()), tuple)

    def test_long_rows(self):
        hall = Hall()
        hall.do(("lay", "a", 0))
        for at in range(3000):
            hall.do(("grow", "a", 1))
        self.assertEqual(hall.steps(), (3001, 0))
        for at in range(2000):
            hall.undo()
        self.assertEqual((hall.road("a").length(), hall.steps()), (1000, (1001, 2000)))
        for at in range(500):
            hall.redo()
        self.assertEqual((hall.road("a").length(), hall.steps()), (1500, (1501, 1500)))
        hall.do(("trim", "a", 7))
        self.assertEqual(hall.steps(), (1502, 0))


class RoadsToldTest(HallCase):
    def test_a_twin(self):
        hall = hall_with(("lay", "a", 9), ("mate", "a", 0, 3, 6, 0))
        road = hall.road("a")
        self.assertIsInstance(road, Road)
        self.assertEqual(road, road_of(9, [(0, 3, 6, 0)]))
        road.grow(1)
        road.strike(1)
        road.count()
        self.assertEqual(stand(hall), ([("a", (9, [(1, (0, 3, 6, 0))]))], {"a": (0, False)}, (2, 0)))
        kept = hall.road("a")
        hall.do(("grow", "a", 5))
        self.assertEqual(kept.length(), 9)

    def test_with_its_folding(self):
        hall = hall_with(("lay", "a", 9), ("mate", "a", 0, 3, 6, 0))
        hall.ask("a")
        road = hall.road("a")
        self.assertEqual((road.folded(), road.keeps(), road.count(), road.folded()), (1, True, 3, 1))
        hall.do(("grow", "a", 1))
        hall.road("a").count()
        self.assertEqual((hall.folded("a"), hall.keeps("a")), (1, False))

    def test_told_lists_are_new(self):
        hall = hall_with(("lay", "b", 9), ("lay", "a", 9))
        names = hall.names()
        names.clear()
        self.assertEqual(hall.names(), ["a", "b"])
        kept = hall.names()
        hall.do(("clear", "a"))
        self.assertEqual(kept, ["a", "b"])


class EqualTest(HallCase):
    def test_where_roads_by_names_are(self):
        one = hall_with(("lay", "a", 5), ("mate", "a", 0, 1, 4, 0), ("lay", "b", 3))
        other = hall_with(("lay", "b", 3), ("lay", "x", 3), ("lay", "a", 4), ("grow", "a", 1), ("mate", "a", 0, 1, 4, 0),
                          ("clear", "x"), most=3)
        other.ask("a")
        self.assertTrue(one == other)
        self.assertFalse(one != other)
        self.assertNotEqual(one.steps(), other.steps())
        for deed in [("lay", "c", 0), ("clear", "b"), ("grow", "a", 1), ("strike", "a", 1), ("mate", "b", 0, 1, 1, 0)]:
            changed = one.twin()
            changed.do(deed)
            self.assertFalse(one == changed)
            self.assertTrue(one != changed)
            changed.undo()
            self.assertTrue(one == changed)

    def test_numbers_of_matings_and_names_count(self):
        one = hall_with(("lay", "a", 5), ("mate", "a", 0, 1, 4, 0))
        other = hall_with(("lay", "a", 5), ("mate", "a", 0, 1, 4, 0), ("mate", "a", 0, 1, 4, 0), ("strike", "a", 1))
        self.assertFalse(one == other)
        self.assertFalse(hall_with(("lay", "a", 5)) == hall_with(("lay", "b", 5)))
        self.assertTrue(Hall() == Hall(most=1))

    def test_never_equal_to_another_kind(self):
        for hall in (Hall(), hall_with(("lay", "a", 5))):
            for other in (0, 1, None, "Hall()", [], {}, {"a": Road(5)}, ["a"], Road(5)):
                self.assertFalse(hall == other)
                self.assertTrue(hall != other)

    def test_repr(self):
        self.assertEqual(repr(hall_with(("lay", "b", 5), ("lay", "a", 5))), "Hall(a, b)")
        self.assertEqual(repr(hall_with(("lay", "zz", 5))), "Hall(zz)")
        self.assertEqual(repr(hall_with(("lay", "zz", 5), ("lay", "a", 1), ("lay", "zy", 0))), "Hall(a, zy, zz)")


class TwinTest(HallCase):
    def test_with_all(self):
        hall = hall_with(("lay", "a", 5), ("lay", "b", 5), ("grow", "a", 1), ("clear", "b"), most=3)
        hall.ask("a")
        hall.undo()
        hall.undo()
        hall.ask("b")
        twin = hall.twin()
        self.assertEqual(stand(twin), stand(hall))
        self.assertTrue(twin == hall)
        for at in range(2):
            twin.undo()
        self.assertEqual((twin.names(), twin.steps()), ([], (0, 4)))
        for at in range(4):
            twin.redo()
        self.assertEqual((twin.folded("a"), twin.keeps("a"), twin.names()), (1, True, ["a"]))
        twin.do(("lay", "x", 1))
        twin.do(("lay", "y", 1))
        self.assertEqual(refusal(lambda: twin.do(("lay", "z", 1))), ("Full", 3))

    def test_of_its_own(self):
        hall = hall_with(("lay", "a", 5), ("lay", "b", 5), ("grow", "a", 1))
        hall.undo()
        twin = hall.twin()
        ahead = stand(hall)
        twin.ask("a")
        twin.redo()
        twin.ask("a")
        twin.undo()
        twin.do(("clear", "b"))
        self.assertEqual(stand(hall), ahead)
        hall.redo()
        self.assertEqual((hall.folded("a"), hall.keeps("a")), (0, False))
        ahead = stand(twin)
        hall.do(("clear", "a"))
        hall.undo()
        hall.undo()
        hall.undo()
        self.assertEqual(stand(twin), ahead)

    def test_a_very_road_of_several_states_is_one_in_the_twin(self):
        hall = hall_with(("lay", "a", 5), ("lay", "b", 5), ("lay", "c", 5))
        hall.undo()
        twin = hall.twin()
        twin.ask("a")
        twin.undo()
        self.assertEqual((twin.folded("a"), twin.keeps("a")), (1, True))
        twin.redo()
        twin.redo()
        self.assertEqual((twin.folded("a"), twin.keeps("a"), twin.folded("b")), (1, True, 0))
        self.assertEqual((hall.folded("a"), hall.keeps("a")), (0, False))


class ManyDeedsTest(HallCase):
    """Rows of deeds, good and bad, held against a hall that keeps all its states."""

    def one_step(self, chance, hall, model):
        kind = chance.randrange(12)
        if kind < 2:
            self.assertEqual(refusal(hall.undo), model.undo())
        elif kind < 4:
            self.assertEqual(refusal(hall.redo), model.redo())
        elif kind < 6 and hall.names():
            name = chance.choice(hall.names())
            self.assertEqual(hall.ask(name), hall.road(name).count())
            model.now[name].ask()
        elif kind < 8:
            deeds = [some_deed(chance, hall) for k in range(chance.randrange(4))]
            self.compare(refusal(lambda: hall.together(deeds)), model.together(deeds), deeds)
        else:
            deed = some_deed(chance, hall)
            self.compare(refusal(lambda: hall.do(deed)), model.together([deed]), deed)

    def compare(self, heard, expected, deeds):
        self.assertEqual(heard if heard is None else exact(heard), expected if expected is None else exact(expected), deeds)
        self.heard.add(expected and expected[0])

    def test_against_the_plain_hall(self):
        self.heard = set()
        for seed in range(140):
            chance = random.Random(seed)
            most = seed % 6 + 1
            hall, model = Hall(most=most), PlainHall(most)
            for at in range(100):
                self.one_step(chance, hall, model)
                self.assertEqual(stand(hall), model.stand())
                if at % 20 == 10:
                    # From here on the twin goes on; what was behind it stays.
                    left, ahead = hall, stand(hall)
                    hall = hall.twin()
                if at % 20 == 19:
                    self.assertEqual(stand(left), ahead)
        self.assertEqual(self.heard, {None, "BadNumber", "BadName", "BadMating", "Taken", "Full", "NoMating", "NoRoad"})


if __name__ == "__main__":
    unittest.main()
