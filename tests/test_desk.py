"""The desk: lines for deeds and questions, their answers, the log, and lines that are none."""

import random
import unittest

from farmates.desk import Desk
from farmates.errors import BadLine, FarError, Missing
from farmates.hall import Hall
from farmates.stretches import FAR
from tests.deeds import refusal, some_deed, stand

TURNS = ["straight", "turned"]
# A good line of each kind, for a hall with the roads a and b.
LINES = [
    "lay c 5", "clear a", "copy a c", "mate a 0 1 2 straight", "mate a 0 1 2 turned", "strike a 1", "grow a 1", "trim a 8",
    "swell a 2", "behind a b", "undo", "redo", "count a", "least a 8", "size a 8", "rank a 8", "family a 2", "kin a 0 3",
    "meeting a 1 4", "inside a 8 0 9", "implies a 0 6 3 straight", "implies a 0 6 3 turned",
]


def two_roads():
    """A hall of roads a and b that has a step to take back and one to do again."""
    hall = Hall()
    hall.together([("lay", "a", 9), ("mate", "a", 0, 3, 6, 0), ("lay", "b", 4)])
    hall.do(("grow", "b", 1))
    hall.undo()
    return hall


def line_of(deed):
    """The line of a deed of good numbers."""
    words = [str(word) for word in deed]
    if deed[0] == "mate":
        words[-1] = TURNS[deed[-1]]
    return " ".join(words)


class DeskCase(unittest.TestCase):
    def say(self, desk, line, expected):
        """The line is answered so, stands in the log, and the desk comes to rest."""
        ahead = desk.log()
        self.assertEqual(desk.say(line), expected, line)
        self.assertEqual(desk.log(), ahead + [(line, expected)])
        self.assertEqual(desk.depth, 0)

    def no_line(self, desk, line):
        """The line is refused; the hall and the log are as ahead."""
        ahead, log = stand(desk.hall), desk.log()
        with self.assertRaises(BadLine) as caught:
            desk.say(line)
        self.assertEqual(caught.exception.word, "BadLine")
        self.assertEqual((stand(desk.hall), desk.log(), desk.depth), (ahead, log, 0), line)


class NewDeskTest(DeskCase):
    def test_fields(self):
        hall = Hall()
        desk = Desk(hall)
        self.assertIs(desk.hall, hall)
        self.assertEqual((desk.depth, type(desk.depth), desk.log()), (0, int, []))

    def test_each_good_line_is_one(self):
        for line in LINES:
            desk = Desk(two_roads())
            answer = desk.say(line)
            self.assertIs(type(answer), str)
            self.assertEqual((desk.log(), desk.depth), ([(line, answer)], 0))
            self.assertNotIn("Bad", answer)


class DeedLinesTest(DeskCase):
    def test_each_deed(self):
        hall = Hall()
        desk = Desk(hall)
        for at, line in enumerate([
            "lay a 9", "mate a 0 3 6 straight", "mate a 5 0 3 turned", "copy a b", "strike b 1", "grow a 2", "trim a 10",
            "swell b 3", "behind a b", "lay zzzzzz 0", "clear zzzzzz",
        ]):
            self.say(desk, line, "done")
            self.assertEqual(hall.steps(), (at + 1, 0))
        self.assertEqual(hall.road("a").length(), 37)
        self.assertEqual(hall.road("a").matings(), [(1, (0, 3, 6, 0)), (2, (5, 0, 3, 1)), (3, (25, 10, 9, 1))])
        self.assertEqual(hall.road("b").matings(), [(2, (15, 0, 9, 1))])

    def test_undo_and_redo(self):
        hall = Hall()
        desk = Desk(hall)
        self.say(desk, "undo", "NothingLeft")
        self.say(desk, "redo", "NothingLeft")
        self.say(desk, "lay a 9", "done")
        self.say(desk, "undo", "done")
        self.assertEqual((hall.names(), hall.steps()), ([], (0, 1)))
        self.say(desk, "undo", "NothingLeft")
        self.say(desk, "redo", "done")
        self.assertEqual((hall.names(), hall.steps()), (["a"], (1, 0)))
        self.say(desk, "redo", "NothingLeft")

    def test_refused_deeds_are_answered_by_their_words(self):
        hall = Hall(most=3)
        hall.together([("lay", "a", 9), ("mate", "a", 0, 3, 6, 0), ("lay", "b", FAR), ("lay", "full", 2)])
        hall.together([("mate", "full", 0, 1, 1, 0)] * 24)
        hall.do(("grow", "a", 1))
        hall.undo()
        desk = Desk(hall)
        ahead = stand(hall)
        for line, expected in [
            ("lay A 5", "BadName"), ("lay abcdefg 5", "BadName"), ("lay a- 5", "BadName"), ("lay 5 5", "BadName"),
            ("lay a 5", "Taken"), ("lay c 5", "Full"), ("clear c", "NoRoad"), ("clear C", "NoRoad"), ("copy c d", "NoRoad"),
            ("copy a D", "BadName"), ("copy a a", "Taken"), ("copy a c", "Full"), ("mate a 0 4 6 straight", "BadMating"),
            ("mate a 0 0 0 turned", "BadMating"), ("mate c 0 0 0 turned", "NoRoad"), ("mate full 0 1 1 turned", "Full"),
            ("strike a 2", "NoMating"), ("strike a 0", "NoMating"), ("strike c 1", "NoRoad"),
            (f"grow a {FAR}", "BadNumber"), ("grow a " + "9" * 30, "BadNumber"), ("trim a 10", "BadNumber"),
            ("swell a 0", "BadNumber"), ("behind a b", "BadNumber"), ("behind full full", "Full"), ("behind c a", "NoRoad"),
            ("behind a c", "NoRoad"), ("count c", "NoRoad"), ("count undo", "NoRoad"), ("clear a\n", "NoRoad"),
            ("lay ~!@#$^&*()_+{}|:<>? 5", "BadName"), ("lay -a 5", "BadName"), ("count count", "NoRoad"),
        ]:
            self.say(desk, line, expected)
            self.assertEqual(stand(hall), ahead, line)
        self.say(desk, "redo", "done")

    def test_lay_refused_with_a_length(self):
        desk = Desk(Hall())
        self.say(desk, f"lay a {FAR + 1}", "BadNumber")
        self.say(desk, "lay a " + "9" * 30, "BadNumber")
        self.say(desk, f"lay a {FAR}", "done")
        self.say(desk, "count a", str(FAR))

    def test_any_deeds(self):
        # The same deeds by lines and by themselves.
        for seed in range(60):
            chance = random.Random(seed)
            hall, other = Hall(most=seed % 6 + 1), Hall(most=seed % 6 + 1)
            desk = Desk(hall)
            for at in range(40):
                deed = some_deed(chance, hall)
                words = [word for word in deed if type(word) is str]
                numbers = [word for word in deed if type(word) is not str]
                if any(not word or " " in word for word in words) or deed[0] == "mate" and deed[-1] not in (0, 1):
                    continue
                if any(type(number) is not int or not 0 <= number < 10 ** 30 for number in numbers):
                    continue
                expected = refusal(lambda: other.do(deed))
                self.assertEqual(desk.say(line_of(deed)), expected[0] if expected else "done", deed)
                self.assertEqual((stand(hall), desk.depth), (stand(other), 0))


class QuestionLinesTest(DeskCase):
    def test_each_question(self):
        hall = two_roads()
        desk = Desk(hall)
        for line, expected in [
            ("count a", "3"), ("count b", "4"), ("least a 8", "2"), ("least a 0", "0"), ("size a 8", "3"), ("rank a 8", "2"),
            ("family a 2", "2"), ("kin a 0 3", "yes"), ("kin a 0 1", "no"), ("kin a 5 5", "yes"), ("meeting a 1 2", "2"),
            ("meeting a 0 9", "3"), ("inside a 8 0 8", "2"), ("inside a 8 3 1", "0"), ("implies a 0 6 3 straight", "yes"),
            ("implies a 0 6 3 turned", "no"), ("implies a 1 1 1 turned", "yes"),
        ]:
            ahead = stand(hall)[::2]
            self.say(desk, line, expected)
            self.assertEqual(stand(hall)[::2], ahead)

    def test_refused_questions(self):
        hall = two_roads()
        desk = Desk(hall)
        for line, expected in [
            ("least a 9", "BadPlace"), ("size a 9", "BadPlace"), ("rank a 9", "BadPlace"), ("family a 3", "NoFamily"),
            ("kin a 9 0", "BadPlace"), ("kin a 0 9", "BadPlace"), ("meeting a 0 10", "BadStretch"),
            ("meeting a 0 0", "BadStretch"), ("inside a 9 0 10", "BadPlace"), ("inside a 8 0 10", "BadStretch"),
            ("implies a 0 0 10 straight", "BadMating"), ("least c 0", "NoRoad"), ("size c 0", "NoRoad"), ("rank c 0", "NoRoad"),
            ("family c 0", "NoRoad"), ("kin c 0 0", "NoRoad"), ("meeting c 0 1", "NoRoad"), ("inside c 0 0 1", "NoRoad"),
            ("implies c 0 0 1 turned", "NoRoad"), ("count c", "NoRoad"), ("least a " + "9" * 30, "BadPlace"),
        ]:
            ahead = stand(hall)[::2]
            self.say(desk, line, expected)
            self.assertEqual(stand(hall)[::2], ahead)

    def test_of_the_very_road(self):
        for line in LINES:
            if line.split(" ")[0] not in ("count", "least", "size", "rank", "family", "kin", "meeting", "inside"):
                continue
            hall = two_roads()
            desk = Desk(hall)
            self.assertEqual((hall.folded("a"), hall.keeps("a")), (0, False))
            desk.say(line)
            self.assertEqual((hall.folded("a"), hall.keeps("a")), (1, True), line)
            for again in ("count a", "least a 8", "kin a 0 1"):
                desk.say(again)
            self.assertEqual((hall.ask("a"), hall.folded("a"), hall.folded("b")), (3, 1, 0))

    def test_what_is_implied_folds_nothing(self):
        hall = two_roads()
        desk = Desk(hall)
        self.say(desk, "implies a 0 6 3 straight", "yes")
        self.assertEqual((hall.folded("a"), hall.keeps("a")), (0, False))

    def test_foldings_through_lines(self):
        hall = two_roads()
        desk = Desk(hall)
        for line, folded, keeps in [
            ("count a", 1, True), ("grow a 0", 1, True), ("grow a 1", 1, False), ("size a 1", 2, True), ("undo", 1, True),
            ("redo", 2, True), ("trim a 9", 2, False), ("kin a 0 1", 3, True),
        ]:
            desk.say(line)
            self.assertEqual((hall.folded("a"), hall.keeps("a")), (folded, keeps), line)

    def test_far(self):
        desk = Desk(Hall())
        for line, expected in [
            (f"lay a {FAR}", "done"), (f"mate a 0 12 {FAR - 12} straight", "done"), (f"mate a 0 21 {FAR - 21} straight", "done"),
            ("count a", "3"), (f"least a {FAR - 1}", "0"), ("size a 0", str(FAR // 3 + 1)), (f"kin a 1 {FAR - 3}", "yes"),
            (f"meeting a 2 {FAR - 2}", "3"), (f"inside a 1 0 {FAR}", str(FAR // 3)),
            (f"implies a 0 3 {FAR - 3} straight", "yes"), ("strike a 2", "done"), ("count a", "12"),
        ]:
            self.say(desk, line, expected)


class NoLineTest(DeskCase):
    def test_words_out_and_words_more(self):
        desk = Desk(two_roads())
        for line in LINES:
            words = line.split(" ")
            for at in range(len(words)):
                self.no_line(desk, " ".join(words[:at] + words[at + 1:]))
            for more in ("a", "0", "1", "straight", "undo", ""):
                self.no_line(desk, " ".join(words + [more]))
                self.no_line(desk, " ".join([more] + words))

    def test_blanks(self):
        desk = Desk(two_roads())
        self.no_line(desk, "")
        self.no_line(desk, " ")
        self.no_line(desk, "  ")
        for line in LINES:
            self.no_line(desk, " " + line)
            self.no_line(desk, line + " ")
            for at, sign in enumerate(line):
                if sign == " ":
                    self.no_line(desk, line[:at] + " " + line[at:])

    def test_words_of_no_sign(self):
        desk = Desk(two_roads())
        for line in ["lay  5", "clear ", "copy  c", "copy a ", "mate  0 1 2 straight", "behind a ", "behind  b", "count ",
                     "least  8", "least a ", "kin a  3", "implies a 0 6 3 "]:
            self.no_line(desk, line)

    def test_numbers_badly_written(self):
        desk = Desk(two_roads())
        for line in LINES:
            words = line.split(" ")
            for at, word in enumerate(words):
                if not word.isdigit():
                    continue
                for bad in ("-" + word, "+" + word, "0" + word, word + ".", word + ".0", "x", "a", "1e3", "0x1", "1_0", "", "00",
                            "-0", "1" * 31, "0" * 31, word + "\n", "\n" + word, "one", "True", "1,0"):
                    self.no_line(desk, " ".join(words[:at] + [bad] + words[at + 1:]))

    def test_thirty_figures_are_let(self):
        desk = Desk(two_roads())
        for line, expected in [
            ("lay c " + "1" * 30, "BadNumber"), ("least a " + "1" * 30, "BadPlace"), ("strike a " + "1" * 30, "NoMating"),
            ("mate a " + "1" * 30 + " 0 1 straight", "BadMating"), ("family a " + "1" * 30, "NoFamily"),
        ]:
            self.say(desk, line, expected)

    def test_turned_badly_written(self):
        desk = Desk(two_roads())
        for word in ("0", "1", "Straight", "TURNED", "turn", "straightt", "yes", "", "turned\n"):
            self.no_line(desk, "mate a 0 1 2 " + word)
            self.no_line(desk, "implies a 0 1 2 " + word)

    def test_first_words_that_are_none(self):
        desk = Desk(two_roads())
        for line in LINES:
            first, blank, rest = line.partition(" ")
            for word in (first.upper(), first.title(), first + "s", first[:-1], first + "\n", "\n" + first, "-" + first):
                self.no_line(desk, word + blank + rest)
        for line in ["road a 9", "done", "log", "help", "together", "spans a", "sizes a", "moves a", "trail a 0", "alike a b",
                     "folded a", "keeps a", "page", "names", "turned a", "ask a", "a", "0", "count\na", "length a"]:
            self.no_line(desk, line)

    def test_the_log_goes_on(self):
        desk = Desk(two_roads())
        self.say(desk, "count a", "3")
        self.no_line(desk, "count  a")
        self.say(desk, "count b", "4")
        self.assertEqual(desk.log(), [("count a", "3"), ("count b", "4")])

    def test_caught_as_the_others_are(self):
        with self.assertRaises(FarError):
            Desk(Hall()).say("no line")
        self.assertFalse(issubclass(BadLine, Missing))


class LogTest(DeskCase):
    def test_told_anew(self):
        desk = Desk(Hall())
        desk.say("lay a 5")
        desk.say("lay a 5")
        told = desk.log()
        self.assertEqual(told, [("lay a 5", "done"), ("lay a 5", "Taken")])
        self.assertTrue(all(type(pair) is tuple for pair in told))
        told.clear()
        kept = desk.log()
        desk.say("count a")
        self.assertEqual(kept, [("lay a 5", "done"), ("lay a 5", "Taken")])
        self.assertEqual(desk.log(), kept + [("count a", "5")])

    def test_undo_takes_nothing_out(self):
        desk = Desk(Hall())
        for line in ("lay a 5", "undo", "undo", "redo"):
            desk.say(line)
        self.assertEqual(desk.log(), [("lay a 5", "done"), ("undo", "done"), ("undo", "NothingLeft"), ("redo", "done")])


class DepthTest(DeskCase):
    def test_not_nought_while_a_line_is_done(self):
        class Listening(Hall):
            def do(self, deed):
                seen.append(desk.depth)
                Hall.do(self, deed)

        seen = []
        desk = Desk(Listening())
        for line in ("lay a 5", "lay a 5", "clear b"):
            desk.say(line)
            self.assertEqual(desk.depth, 0)
        self.assertEqual(seen, [1, 1, 1])


class TwoDesksTest(DeskCase):
    def test_one_hall(self):
        hall = Hall()
        one, other = Desk(hall), Desk(hall)
        self.assertEqual(one.say("lay a 5"), "done")
        self.assertEqual(other.say("lay a 5"), "Taken")
        self.assertEqual(other.say("mate a 0 1 4 straight"), "done")
        self.assertEqual(one.say("count a"), "1")
        hall.do(("grow", "a", 1))
        self.assertEqual(other.say("count a"), "2")
        self.assertEqual(other.say("undo"), "done")
        self.assertEqual(one.say("count a"), "1")
        self.assertEqual(hall.folded("a"), 1)
        self.assertEqual(one.log(), [("lay a 5", "done"), ("count a", "1"), ("count a", "1")])
        self.assertEqual(len(other.log()), 4)
        self.assertIs(one.hall, other.hall)

    def test_two_halls(self):
        one, other = Desk(Hall()), Desk(Hall())
        one.say("lay a 5")
        self.assertEqual((other.say("count a"), other.log()), ("NoRoad", [("count a", "NoRoad")]))
        self.assertEqual(len(other.hall), 0)


if __name__ == "__main__":
    unittest.main()
