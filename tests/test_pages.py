"""Pages: the text of a hall, and the hall that a text tells, or the row at which it is no page."""

import random
import unittest

from farmates.errors import BadText
from farmates.hall import ROADS, Hall
from farmates.pages import page, read_page
from farmates.stretches import FAR
from tests import plain_hall as plain
from tests.deeds import refusal, some_deed, stand

PAGE = "\n".join([
    "road a 9", "mate 1 0 3 6 straight", "mate 4 5 0 3 turned", "road b 0", "road cc 5", "mate 7 0 0 5 turned", "road d 7",
])


def sample_hall():
    hall = Hall()
    hall.together([
        ("lay", "cc", 5), ("lay", "a", 9), ("lay", "d", 7), ("lay", "b", 0), ("mate", "a", 0, 3, 6, 0),
        ("mate", "a", 0, 1, 1, 0), ("mate", "a", 0, 1, 1, 0), ("mate", "a", 5, 0, 3, 1), ("strike", "a", 2), ("strike", "a", 3),
    ])
    hall.together([("mate", "cc", 0, 0, 5, 1)] * 7)
    hall.together([("strike", "cc", number) for number in range(1, 7)])
    return hall


def some_hall(chance, most, many):
    hall = Hall(most=most)
    for at in range(many):
        refusal(lambda: hall.do(some_deed(chance, hall)))
    return hall


def fault(text, most=ROADS):
    """None, or the number of the row with which the text is refused."""
    try:
        read_page(text, most=most)
    except BadText as error:
        assert error.word == "BadText" and type(error.at) is int
        return error.at
    return None


class PageTest(unittest.TestCase):
    def test_by_hand(self):
        self.assertEqual(page(sample_hall()), PAGE)
        self.assertEqual(page(Hall()), "")
        hall = Hall(most=1)
        hall.do(("lay", "zzzzzz", 0))
        self.assertEqual(page(hall), "road zzzzzz 0")

    def test_up_to_far(self):
        hall = Hall()
        hall.together([("lay", "a", FAR), ("mate", "a", FAR - 1, 0, 1, 0), ("mate", "a", 0, 0, FAR, 1)])
        self.assertEqual(page(hall), f"road a {FAR}\nmate 1 {FAR - 1} 0 1 straight\nmate 2 0 0 {FAR} turned")
        self.assertEqual(read_page(page(hall)), hall)

    def test_six_roads_of_24_matings(self):
        hall = Hall()
        for name in "fedcba":
            hall.together([("lay", name, 3)] + [("mate", name, 0, 1, 2, 1)] * 24)
        rows = page(hall).split("\n")
        self.assertEqual(len(rows), 6 * 25)
        self.assertEqual([row for row in rows if row.startswith("road")], [f"road {name} 3" for name in "abcdef"])
        self.assertEqual(rows[24], "mate 24 0 1 2 turned")
        self.assertEqual(read_page(page(hall)), hall)

    def test_any_halls(self):
        chance = random.Random(151)
        for at in range(120):
            hall = some_hall(chance, at % 6 + 1, 25)
            roads = {name: (hall.road(name).length(), hall.road(name).matings()) for name in hall.names()}
            self.assertEqual(page(hall), plain.page(roads))

    def test_the_hall_stays(self):
        hall = sample_hall()
        ahead = stand(hall)
        page(hall)
        self.assertEqual((stand(hall), page(hall)), (ahead, PAGE))


class ReadTest(unittest.TestCase):
    def test_by_hand(self):
        hall = read_page(PAGE)
        self.assertIsInstance(hall, Hall)
        self.assertEqual(hall, sample_hall())
        self.assertEqual((hall.steps(), page(hall), repr(hall)), ((0, 0), PAGE, "Hall(a, b, cc, d)"))
        self.assertEqual((hall.folded("a"), hall.keeps("a")), (0, False))
        self.assertEqual(refusal(hall.undo), ("NothingLeft",))
        self.assertEqual(hall.ask("a"), sample_hall().ask("a"))

    def test_the_empty_text(self):
        hall = read_page("")
        self.assertEqual((hall, hall.steps(), page(hall)), (Hall(), (0, 0), ""))

    def test_goes_on_from_there(self):
        hall = read_page(PAGE)
        hall.do(("mate", "a", 0, 1, 1, 0))
        self.assertEqual([number for number, mating in hall.road("a").matings()], [1, 4, 5])
        hall.do(("grow", "d", 1))
        hall.undo()
        hall.undo()
        self.assertEqual((hall, hall.steps()), (sample_hall(), (0, 2)))
        twin = hall.twin()
        twin.redo()
        self.assertEqual(len(twin.road("a").matings()), 3)

    def test_any_halls(self):
        chance = random.Random(152)
        for at in range(120):
            hall = some_hall(chance, at % 6 + 1, 25)
            text = page(hall)
            read = read_page(text, most=6)
            self.assertTrue(read == hall)
            self.assertEqual((read.steps(), page(read)), ((0, 0), text))

    def test_made_for_so_many(self):
        text = page(sample_hall())
        for most in (4, 5, 6):
            hall = read_page(text, most=most)
            for name in "uvwxyz"[:most - 4]:
                hall.do(("lay", name, 1))
            self.assertEqual(refusal(lambda: hall.do(("lay", "over", 1))), ("Full", most))
        self.assertEqual([fault(text, most) for most in (1, 2, 3)], [3, 4, 6])
        self.assertEqual(refusal(lambda: read_page("", most=1).do(("lay", "a", 1))), None)

    def test_great_numbers_of_matings(self):
        number = 10 ** 30 - 1
        hall = read_page(f"road a 2\nmate {number} 0 1 1 straight")
        self.assertEqual(hall.road("a").matings(), [(number, (0, 1, 1, 0))])
        self.assertEqual(page(hall), f"road a 2\nmate {number} 0 1 1 straight")

    def test_reads_apart(self):
        one, other = read_page(PAGE), read_page(PAGE)
        one.do(("clear", "a"))
        one.ask("cc")
        self.assertEqual((other, other.folded("cc")), (sample_hall(), 0))


class BadTextTest(unittest.TestCase):
    def check(self, text, expected, most=ROADS):
        self.assertEqual(plain.page_fault(text, most), expected, text)
        self.assertEqual(fault(text, most), expected, text)

    def row(self, at, row, expected):
        """The page with another row at this number is wrong there, or right."""
        rows = PAGE.split("\n")
        rows[at] = row
        self.check("\n".join(rows), expected)

    def test_rows_badly_written(self):
        for row in ["", "road", "road e", "road e 5 ", " road e 5", "road  e 5", "road e  5", "road e 5 5", "road E 5",
                    "road eE 5", "road eeeeeee 5", "road e1 5", "road e -5", "road e +5", "road e 05", "road e 00", "road e 5.",
                    "road e five", "road e 5_0", "road  5", "Road e 5", "ROAD e 5", "roads e 5", "rode e 5", "e 5", "lay e 5",
                    "road e\t5", "road e " + "1" * 31, "road e " + "0" * 31, "road 5 e", "road -e 5"]:
            self.row(6, row, 6)
            self.check(row + "\n" + PAGE, 0)
        for row in ["mate", "mate 4 5 0 3", "mate 4 5 0 3 turned ", " mate 4 5 0 3 turned", "mate  4 5 0 3 turned",
                    "mate 4 5 0  3 turned", "mate 4 5 0 3  turned", "mate 4 5 0 3 Turned", "mate 4 5 0 3 1", "mate 4 5 0 3 0",
                    "mate 4 5 0 3 turn", "mate 4 5 0 3 straight turned", "mate 4 5 0 3 3 turned", "mate 4 5 0 turned",
                    "mate 04 5 0 3 turned", "mate 4 05 0 3 turned", "mate 4 5 00 3 turned", "mate 4 5 0 03 turned",
                    "mate +4 5 0 3 turned", "mate 4 -5 0 3 turned", "mate 4 5 -0 3 turned", "mate 4 5 0 +3 turned",
                    "mate a 5 0 3 turned", "mate 4 a 0 3 turned", "Mate 4 5 0 3 turned", "mate " + "4" * 31 + " 5 0 3 turned",
                    "mate 4 5 0 " + "3" * 31 + " turned", "mated 4 5 0 3 turned", "mate 4 5 0 3 tuRned", "mate  5 0 3 turned",
                    "mate 4 5 0 3 ", "mate a 4 5 0 3 turned", "mate 4 5 0 3 straigh"]:
            self.row(2, row, 2)
        # So many figures are let.
        self.row(2, "mate " + "4" * 30 + " 5 0 3 turned", None)

    def test_rows_that_are_refused(self):
        for row in [f"road d {FAR + 1}", "road d " + "9" * 30]:
            self.row(6, row, 6)
        self.row(6, f"road d {FAR}", None)
        for row in ["mate 4 5 0 5 turned", "mate 4 0 5 5 straight", "mate 4 9 0 1 turned", "mate 4 5 0 0 turned",
                    "mate 4 0 0 10 straight", "mate 4 " + "9" * 30 + " 0 1 turned", "mate 4 0 0 " + "9" * 30 + " turned"]:
            self.row(2, row, 2)
        self.row(2, "mate 4 5 0 4 turned", None)
        # No place, no mating.
        self.check("road a 0\nmate 1 0 0 1 straight", 1)

    def test_a_mating_of_no_road(self):
        self.check("mate 1 0 0 1 straight", 0)
        self.check("mate 1 0 3 6 straight\nroad a 9", 0)

    def test_rows_that_do_not_rise(self):
        self.row(6, "road cc 7", 6)
        self.row(6, "road c 7", 6)
        self.row(6, "road cb 7", 6)
        self.row(6, "road cca 7", None)
        self.row(0, "road aaaaaa 9", None)
        self.row(0, "road b 9", 3)
        self.row(2, "mate 1 5 0 3 turned", 2)
        self.row(2, "mate 0 5 0 3 turned", 2)
        self.row(1, "mate 0 0 3 6 straight", 1)
        self.row(1, "mate 4 0 3 6 straight", 2)
        self.row(1, "mate 5 0 3 6 straight", 2)
        self.row(2, "mate 2 5 0 3 turned", None)
        # Within one road only.
        self.row(5, "mate 1 0 0 5 turned", None)
        self.row(5, "mate 0 0 0 5 turned", 5)
        # As numbers, not as texts.
        self.check("road a 9\nmate 9 0 0 1 straight\nmate 10 0 0 1 straight", None)
        self.check("road a 9\nmate 10 0 0 1 straight\nmate 9 0 0 1 straight", 2)

    def test_line_feeds_and_blanks_too_many(self):
        self.check("\n", 0)
        self.check(" ", 0)
        self.check("\n\n", 0)
        self.check(PAGE + "\n", 7)
        self.check(PAGE + " ", 6)
        self.check(PAGE + "\n ", 7)
        self.check("\n" + PAGE, 0)
        self.check(" " + PAGE, 0)
        self.check(PAGE.replace("\nroad b", "\n\nroad b"), 3)
        self.check(PAGE.replace("\nroad b", " \nroad b"), 2)

    def test_a_seventh_road_and_a_25th_mating(self):
        roads = [f"road {name} 1" for name in "abcdefg"]
        self.check("\n".join(roads[:6]), None)
        self.check("\n".join(roads), 6)
        for most in range(1, 7):
            self.check("\n".join(roads[:most]), None, most)
            self.check("\n".join(roads), most, most)
        mates = [f"mate {number} 0 0 1 straight" for number in range(1, 26)]
        self.check("\n".join(["road a 1"] + mates[:24] + ["road b 1"] + mates[:24]), None)
        self.check("\n".join(["road a 1"] + mates + ["road b 1"]), 25)
        self.check("\n".join(["road a 1"] + mates[:24] + ["road b 1"] + mates), 50)

    def test_the_first_of_several(self):
        self.check("road a 9\nmate 1 0 3 7 straight\nroad A 9", 1)
        self.check("road a 9\nroad A 9\nmate 1 0 3 7 straight", 1)
        self.check("road b 9\nroad a 9\n", 1)

    def test_rows_out_twice_exchanged_put_in(self):
        chance = random.Random(153)
        seen = set()
        for at in range(600):
            text = page(some_hall(chance, 6, 25)) if at % 2 else PAGE
            rows = text.split("\n")
            k, j = chance.randrange(len(rows)), chance.randrange(len(rows))
            how = at % 6
            if how == 0:
                del rows[k]
            elif how == 1:
                rows.insert(k, rows[k])
            elif how == 2:
                rows[k], rows[j] = rows[j], rows[k]
            elif how == 3:
                rows.insert(k, chance.choice(["road a 5", "road dd 5", "mate 2 0 0 1 turned", "mate 9 0 1 2 straight", ""]))
            elif how == 4:
                words = rows[k].split(" ")
                words[chance.randrange(len(words))] = chance.choice(["0", "1", "12", "a", "turned", "road", "05", "", "-1", "zz"])
                rows[k] = " ".join(words)
            else:
                spot = chance.randrange(len(rows[k]) + 1)
                rows[k] = rows[k][:spot] + chance.choice([" ", "0", "\n", "-", "a", "A", "9"]) + rows[k][spot:]
            text, most = "\n".join(rows), chance.randint(3, 6)
            self.check(text, plain.page_fault(text, most), most)
            seen.add(plain.page_fault(text, most))
            if fault(text, most) is None:
                self.assertEqual(page(read_page(text, most=most)), text)
        self.assertGreater(len(seen), 7)


if __name__ == "__main__":
    unittest.main()
