"""What holds over the whole program: keywords, tuples for lists, what is told stays, refusals with their fields."""

import inspect
import unittest

from farmates import boards, desk, errors, foldings, fronts, hall, pages, papers, roads, stretches, words
from farmates.boards import DEEP, Board, Loops
from farmates.desk import Desk
from farmates.foldings import Folding
from farmates.fronts import Front
from farmates.hall import Hall
from farmates.roads import Road
from farmates.stretches import FAR
from tests.deeds import exact

MATINGS = [(0, 3, 6, 0), (5, 0, 3, 1)]
MOVES = foldings.fold(9, MATINGS)
CELLS = [("a", "b", "c"), ("-c", "d", "e"), ("-b", "f", "-d"), ("-a", "-e", "-f")]
COUNTS = {"a": 2, "b": 2, "c": 2, "d": 2, "e": 2, "f": 2}
TEXT = "road a 9\nmate 1 0 3 6 straight\nmate 2 5 0 3 turned\nroad b 4"


def front():
    return Front(9, MATINGS)


def folding():
    return Folding(9, MATINGS)


def road():
    told = Road(9)
    told.mate(0, 3, 6)
    told.mate(5, 0, 3, turned=1)
    return told


def board():
    return Board(CELLS)


def loops():
    return Loops(Board(CELLS), COUNTS)


def two_roads():
    told = pages.read_page(TEXT)
    told.do(("grow", "b", 1))
    told.do(("grow", "b", 1))
    told.undo()
    return told


def at_desk():
    return Desk(two_roads())


# Functions and classes: who makes the call, and its arguments by name, in their order.
FUNCTIONS = [
    (stretches.need_length, {"number": 9}),
    (stretches.is_mating, {"length": 9, "mating": (0, 3, 6, 0)}),
    (stretches.common, {"one": 12, "other": 18}),
    (stretches.normal, {"mating": (5, 0, 3, 1)}),
    (stretches.back, {"mating": (5, 0, 3, 1)}),
    (stretches.led, {"mating": (5, 0, 3, 1), "place": 6}),
    (stretches.part, {"mating": (5, 0, 3, 1), "at": 6, "many": 2}),
    (stretches.after, {"first": (5, 0, 3, 1), "second": (1, 7, 2, 0)}),
    (stretches.moved, {"mating": (5, 0, 3, 1), "by": 4}),
    (stretches.swelled, {"mating": (5, 0, 3, 1), "times": 4}),
    (stretches.clipped, {"mating": (5, 0, 3, 1), "length": 7}),
    (fronts.Front, {"length": 9, "matings": MATINGS}),
    (fronts.judge, {"length": 9, "matings": MATINGS, "moves": MOVES}),
    (foldings.fold, {"length": 9, "matings": MATINGS}),
    (foldings.Folding, {"length": 9, "matings": MATINGS, "moves": MOVES}),
    (papers.kin_paper, {"length": 9, "matings": MATINGS, "one": 8, "other": 2}),
    (papers.judge_kin, {"length": 9, "matings": MATINGS, "one": 8, "other": 2, "paper": papers.kin_paper(9, MATINGS, 8, 2)}),
    (roads.Road, {"length": 9}),
    (words.copy_of, {"one": 3, "other": 1, "many": 2}),
    (words.mirror, {"at": 3, "many": 2}),
    (words.period, {"at": 3, "many": 9, "step": 2}),
    (words.most_letters, {"length": 9, "matings": MATINGS}),
    (words.least_word, {"length": 9, "matings": MATINGS}),
    (words.spelled, {"road": road(), "at": 2, "many": 4}),
    (words.is_period, {"road": road(), "step": 3}),
    (boards.Board, {"cells": CELLS}),
    (boards.Loops, {"board": board(), "counts": COUNTS}),
    (hall.Hall, {"most": 3}),
    (pages.page, {"hall": two_roads()}),
    (pages.read_page, {"text": TEXT, "most": 3}),
    (desk.Desk, {"hall": two_roads()}),
]
METHODS = [
    (front, "top", {}), (front, "left", {}), (front, "make", {"move": MOVES[0]}), (front, "led_on", {}), (front, "twin", {}),
    (folding, "moves", {}), (folding, "count", {}), (folding, "least", {"place": 8}), (folding, "trail", {"place": 8}),
    (folding, "size", {"place": 8}), (folding, "rank", {"place": 8}), (folding, "family", {"number": 1}),
    (folding, "spans", {}), (folding, "sizes", {}), (folding, "meeting", {"at": 1, "many": 4}),
    (folding, "inside", {"place": 0, "at": 1, "many": 7}),
    (road, "mate", {"one": 4, "other": 2, "many": 3, "turned": 1}), (road, "strike", {"number": 1}), (road, "grow", {"more": 2}),
    (road, "trim", {"length": 5}), (road, "swell", {"times": 3}), (road, "behind", {"other": Road(4)}), (road, "length", {}),
    (road, "matings", {}), (road, "count", {}), (road, "least", {"place": 8}), (road, "size", {"place": 8}),
    (road, "rank", {"place": 8}), (road, "family", {"number": 1}), (road, "spans", {}), (road, "sizes", {}),
    (road, "meeting", {"at": 1, "many": 4}), (road, "inside", {"place": 0, "at": 1, "many": 7}), (road, "moves", {}),
    (road, "trail", {"place": 8}), (road, "kin", {"one": 8, "other": 2}),
    (road, "implies", {"one": 6, "other": 0, "many": 2, "turned": 1}), (road, "alike", {"other": Road(9)}),
    (road, "turned_about", {}), (road, "folded", {}), (road, "keeps", {}), (road, "twin", {}),
    (board, "cells", {}), (board, "sides", {}), (board, "rim", {}), (board, "corners", {}), (board, "flipped", {"side": "b"}),
    (loops, "counts", {}), (loops, "board_now", {}), (loops, "road", {}), (loops, "start", {"side": "c"}), (loops, "curves", {}),
    (loops, "loops", {}), (loops, "arcs", {}), (loops, "flip", {"side": "b"}), (loops, "times", {"k": 3}), (loops, "twin", {}),
    (two_roads, "do", {"deed": ("lay", "c", 2)}), (two_roads, "together", {"deeds": [("lay", "c", 2), ("clear", "a")]}),
    (two_roads, "undo", {}), (two_roads, "redo", {}), (two_roads, "names", {}), (two_roads, "road", {"name": "a"}),
    (two_roads, "ask", {"name": "a"}), (two_roads, "folded", {"name": "a"}), (two_roads, "keeps", {"name": "a"}),
    (two_roads, "steps", {}), (two_roads, "twin", {}),
    (at_desk, "say", {"line": "grow a 3"}), (at_desk, "log", {}),
]


def told_of(thing):
    """A value that tells two things of one kind apart where they differ."""
    if isinstance(thing, Front):
        return ("front", thing.top(), thing.left(), thing.led_on())
    if isinstance(thing, Folding):
        return ("folding", thing.moves(), thing.spans())
    if isinstance(thing, Road):
        return ("road", thing.length(), thing.matings(), thing.folded(), thing.keeps())
    if isinstance(thing, Board):
        return ("board", thing.cells())
    if isinstance(thing, Loops):
        return ("loops", thing.board_now().cells(), thing.counts())
    if isinstance(thing, Hall):
        return ("hall", pages.page(thing), thing.steps(), {name: thing.folded(name) for name in thing.names()})
    if isinstance(thing, Desk):
        return ("desk", told_of(thing.hall), thing.log(), thing.depth)
    return thing


def split(function, values):
    """What may be handed in by place, and what stands behind *."""
    kinds = inspect.signature(function).parameters
    named = {name: values[name] for name in values if kinds[name].kind is inspect.Parameter.KEYWORD_ONLY}
    return [values[name] for name in values if name not in named], named


class KeywordsTest(unittest.TestCase):
    """Each call of the interface by keywords, the last one first, tells what it tells by places."""

    def test_functions_and_classes(self):
        for function, values in FUNCTIONS:
            with self.subTest(function=function.__name__):
                placed, named = split(function, values)
                expected = told_of(function(*placed, **named))
                backwards = {name: values[name] for name in reversed(list(values))}
                self.assertEqual(list(inspect.signature(function).parameters), list(values))
                self.assertEqual(told_of(function(**backwards)), expected)

    def test_methods(self):
        for make, name, values in METHODS:
            with self.subTest(made=make.__name__, name=name):
                one, other = make(), make()
                placed, named = split(getattr(one, name), values)
                expected = told_of(getattr(one, name)(*placed, **named))
                backwards = {word: values[word] for word in reversed(list(values))}
                self.assertEqual(list(inspect.signature(getattr(other, name)).parameters), list(values))
                self.assertEqual(told_of(getattr(other, name)(**backwards)), expected)
                self.assertEqual(told_of(one), told_of(other))

    def test_errors(self):
        for name, kind in vars(errors).items():
            if isinstance(kind, type) and name not in ("FarError", "Missing"):
                fields = list(inspect.signature(kind).parameters)
                error = kind(**{field: at for at, field in reversed(list(enumerate(fields)))})
                self.assertEqual([getattr(error, field) for field in fields], list(range(len(fields))))

    def test_each_public_method_is_called(self):
        called = {(type(make()), name) for make, name, values in METHODS}
        for kind in (Front, Folding, Road, Board, Loops, Hall, Desk):
            self.assertTrue({name for made, name in called if made is kind})
            for made, name in called:
                if made is kind:
                    self.assertIn(name, vars(kind))


class TuplesTest(unittest.TestCase):
    """A tuple may be handed in where a list may."""

    def test_tuples_tell_what_lists_do(self):
        for function, values in FUNCTIONS:
            if any(isinstance(worth, list) for worth in values.values()):
                with self.subTest(function=function.__name__):
                    tuples = {name: tuple(worth) if isinstance(worth, list) else worth for name, worth in values.items()}
                    self.assertEqual(told_of(function(**tuples)), told_of(function(**values)))

    def test_papers_of_tuples(self):
        moves, one, other = papers.kin_paper(9, MATINGS, 8, 2)
        self.assertEqual(papers.judge_kin(9, tuple(MATINGS), 8, 2, (tuple(moves), tuple(one), tuple(other))),
                         papers.judge_kin(9, MATINGS, 8, 2, (moves, one, other)))

    def test_deeds_of_tuples(self):
        one, other = Hall(), Hall()
        one.together([("lay", "a", 5), ("grow", "a", 1)])
        other.together((("lay", "a", 5), ("grow", "a", 1)))
        self.assertEqual(told_of(one), told_of(other))


class HandedInTest(unittest.TestCase):
    """Nothing handed in is changed, or kept but as a copy."""

    def test_lists_and_dicts_handed_in_stay(self):
        for function, values in FUNCTIONS:
            ahead = {name: told_of(worth) for name, worth in values.items()}
            function(**values)
            for name in values:
                if not isinstance(values[name], Road):
                    self.assertEqual(told_of(values[name]), ahead[name], function.__name__)

    def test_lists_and_dicts_changed_behind(self):
        matings, moves, cells, counts = list(MATINGS), list(MOVES), list(CELLS), dict(COUNTS)
        things = [Front(9, matings), Folding(9, matings), Folding(9, matings, moves=moves), Board(cells),
                  Loops(Board(cells), counts)]
        ahead = [told_of(thing) for thing in things]
        matings.clear()
        moves.clear()
        cells.clear()
        counts.clear()
        self.assertEqual([told_of(thing) for thing in things], ahead)


class ToldTest(unittest.TestCase):
    """Lists and dicts that were told are new each time, and stay as they were told through later deeds."""

    def test_new_each_time(self):
        for make, name, values in METHODS:
            thing = make()
            ask = getattr(thing, name)
            if name in ("mate", "say", "make", "undo", "redo", "do"):
                continue
            told = ask(**values)
            if isinstance(told, (list, dict)):
                kept = type(told)(told)
                told.clear()
                self.assertEqual(ask(**values), kept, name)

    def test_lists_and_dicts_stay_through_later_deeds(self):
        for make, deeds in [
            (front, [("make", {"move": move}) for move in MOVES]),
            (road, [("mate", {"one": 0, "other": 1, "many": 3}), ("strike", {"number": 1}), ("grow", {"more": 2}), ("count", {}),
                    ("trim", {"length": 5}), ("swell", {"times": 3}), ("behind", {"other": Road(3)}), ("trim", {"length": 0})]),
            (loops, [("flip", {"side": side}) for side in "bcbb"]),
            (two_roads, [("do", {"deed": ("lay", "c", 2)}), ("ask", {"name": "a"}), ("do", {"deed": ("clear", "a")}),
                         ("undo", {}), ("undo", {}), ("redo", {}), ("do", {"deed": ("swell", "b", 2)})]),
            (at_desk, [("say", {"line": line}) for line in ("lay c 2", "count a", "undo", "clear a", "clear a")]),
        ]:
            thing = make()
            heard = self.hear(thing, make)
            kept = [type(told)(told) for told in heard]
            for name, values in deeds:
                getattr(thing, name)(**values)
                self.assertEqual(heard, kept, (make.__name__, name))

    def hear(self, thing, make):
        """All lists and dicts that a thing tells by itself or by twins and roads."""
        told = []
        for maker, name, values in METHODS:
            if maker is make and name not in ("mate", "make", "do", "together", "undo", "redo", "say", "flip", "strike", "grow",
                                              "trim", "swell", "behind"):
                answer = getattr(thing, name)(**values)
                if isinstance(answer, Road):
                    answer = answer.matings()
                if isinstance(answer, (list, dict)):
                    told.append(answer)
        self.assertTrue(told)
        return told

    def test_asked_again_the_same(self):
        for make, name, values in METHODS:
            if name in ("mate", "strike", "grow", "trim", "swell", "behind", "make", "flip", "do", "together", "undo", "redo",
                        "say", "folded", "keeps"):
                continue
            thing = make()
            self.assertEqual(told_of(getattr(thing, name)(**values)), told_of(getattr(thing, name)(**values)), name)


class RefusalsTest(unittest.TestCase):
    """Each refusal, as it comes from the program, with its fields as handed in and its word."""

    def refused(self, kind, call, **fields):
        with self.assertRaises(kind) as caught:
            call()
        self.assertIs(type(caught.exception), kind)
        self.assertEqual(caught.exception.word, kind.__name__)
        self.assertEqual(set(vars(caught.exception)), set(fields) | {"word"})
        for name in fields:
            self.assertEqual(exact(getattr(caught.exception, name)), exact(fields[name]))
        self.seen.add(kind.__name__)

    def test_each_class(self):
        self.seen = set()
        told, thing, lines = two_roads(), loops(), at_desk()
        self.refused(errors.BadNumber, lambda: Road(True), number=True)
        self.refused(errors.BadNumber, lambda: thing.times(False), number=False)
        self.refused(errors.BadName, lambda: told.do(("lay", "A b", 3)), name="A b")
        self.refused(errors.BadMating, lambda: told.do(("mate", "a", 0, 1, 9, True)), mating=(0, 1, 9, True))
        self.refused(errors.BadPlace, lambda: folding().least(True), place=True)
        self.refused(errors.BadStretch, lambda: folding().meeting(9, True), at=9, many=True)
        self.refused(errors.BadMove, lambda: front().make(("bare", 0)), move=("bare", 0))
        self.refused(errors.BadMoves, lambda: Folding(9, MATINGS, moves=[]), at=0)
        self.refused(errors.BadBoard, lambda: Board(CELLS + [("a", "x", "y")]), cell=4)
        self.refused(errors.BadCounts, lambda: Loops(board(), {**COUNTS, "f": 3}), cell=2)
        self.refused(errors.BadSide, lambda: Loops(Board([("a", "b", "c")]), {"a": 0, "b": 0, "c": 0}).flip("b"), side="b")
        self.refused(errors.TooMuch, lambda: thing.times(DEEP), number=2 * DEEP)
        self.refused(errors.BadText, lambda: pages.read_page(TEXT + "\n"), at=4)
        self.refused(errors.BadLine, lambda: lines.say("count  a"))
        self.refused(errors.Taken, lambda: told.do(("copy", "a", "b")), name="b")
        self.refused(errors.Full, lambda: pages.read_page(TEXT, most=2).do(("lay", "c", 1)), most=2)
        self.refused(errors.NoMating, lambda: told.do(("strike", "a", True)), number=True)
        self.refused(errors.NoRoad, lambda: told.ask("A b"), name="A b")
        self.refused(errors.NoSide, lambda: thing.flip("-a"), side="-a")
        self.refused(errors.NoFamily, lambda: road().family(False), number=False)
        self.refused(errors.NothingLeft, Hall().redo)
        kinds = {name for name in vars(errors) if isinstance(getattr(errors, name), type)}
        self.assertEqual(self.seen, kinds - {"FarError", "Missing"})


class ApartTest(unittest.TestCase):
    def test_objects_made_apart(self):
        for make, name, values in METHODS:
            one, other = make(), make()
            ahead = told_of(other)
            getattr(one, name)(**values)
            self.assertEqual(told_of(other), ahead, name)

    def test_never_equal_to_another_kind(self):
        things = [front(), folding(), road(), board(), loops(), two_roads(), at_desk()]
        for thing in things:
            for other in [None, 0, "", [], {}, (), told_of(thing), repr(thing)] + [each for each in things if each is not thing]:
                self.assertFalse(thing == other)
                self.assertTrue(thing != other)

    def test_far(self):
        self.assertEqual((stretches.FAR, boards.DEEP, hall.ROADS, boards.CELLS), (FAR, 10 ** 15, 6, 8))


if __name__ == "__main__":
    unittest.main()
