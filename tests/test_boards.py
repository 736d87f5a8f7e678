"""Boards: their cells, sides, rim and corners, which ones are refused, and sides that are flipped."""

import random
import unittest

from farmates.boards import CELLS, Board
from farmates.errors import BadBoard, BadSide, NoSide
from tests import plain_boards as plain
from tests.board_samples import ALONE, BALL, BAND, BOTTLE, CONE, FOUR, NAMES, SMALL, TORUS, some_boards

# Sides that are written wrong.
NO_SIDES = ["", "-", "--a", "---a", "a-", "abcde", "-abcde", "A", "-A", "aB", "a1", "1", "a b", " a", "a ", "- a", "a\n", "+a",
            "-a-", "{", "`", "_"]


def eight():
    """Eight cells with no side joined."""
    return [tuple(NAMES[3 * at:3 * at + 3]) for at in range(8)]


class CellsTest(unittest.TestCase):
    def test_what_boards_tell(self):
        for cells in some_boards(101, 120):
            board = Board(cells)
            where = plain.stands(cells)
            self.assertEqual(board.cells(), cells)
            self.assertEqual(board.sides(), sorted(where))
            self.assertEqual(board.rim(), sorted(name for name in where if len(where[name]) == 1))
            self.assertEqual(len(board), len(cells))
            self.assertEqual(board.corners(), plain.corners(cells), cells)

    def test_by_hand(self):
        board = Board([("b", "-ab", "-b"), ("zz", "ab", "a")])
        self.assertEqual(board.cells(), [("b", "-ab", "-b"), ("zz", "ab", "a")])
        self.assertEqual(board.sides(), ["a", "ab", "b", "zz"])
        self.assertEqual(board.rim(), ["a", "zz"])
        self.assertEqual(len(board), 2)

    def test_one_to_eight_cells(self):
        for many in range(1, CELLS + 1):
            board = Board(eight()[:many])
            self.assertEqual((len(board), len(board.sides()), board.rim()), (many, 3 * many, board.sides()))
            self.assertEqual(board.corners(), 3 * many)
        self.assertEqual(CELLS, 8)

    def test_names_of_one_to_four_letters(self):
        for name in ("a", "z", "az", "zzz", "abcd", "zzzz"):
            for side in (name, "-" + name):
                self.assertEqual(Board([(side, "x", "y")]).sides(), sorted([name, "x", "y"]))

    def test_a_tuple_of_cells(self):
        self.assertEqual(Board(tuple(FOUR)), Board(FOUR))
        self.assertEqual(Board(tuple(FOUR)).cells(), FOUR)

    def test_what_is_handed_in_is_kept_as_a_copy(self):
        cells = list(FOUR)
        board = Board(cells)
        cells[0] = ("x", "y", "z")
        cells.pop()
        self.assertEqual(board.cells(), FOUR)
        self.assertEqual((board.sides(), len(board)), (["a", "b", "c", "d", "e", "f"], 4))

    def test_told_lists_are_new(self):
        board = Board(BAND + [("b", "c", "d")])
        for ask in (board.cells, board.sides, board.rim):
            told = ask()
            kept = list(told)
            self.assertIs(type(told), list)
            told.clear()
            self.assertEqual(ask(), kept)
            self.assertTrue(kept)
        self.assertEqual(len(board), 2)

    def test_cells_are_tuples(self):
        self.assertTrue(all(type(cell) is tuple for cell in Board(FOUR).cells()))
        self.assertTrue(all(type(cell) is tuple for cell in Board(FOUR).flipped("a").cells()))


class CornersTest(unittest.TestCase):
    def test_known_ones(self):
        for cells, expected in [(BALL, 3), (TORUS, 1), (BOTTLE, 1), (CONE, 2), (BAND, 1), (ALONE, 3), (FOUR, 4)]:
            self.assertEqual(Board(cells).corners(), expected, cells)

    def test_two_cells_by_one_side(self):
        self.assertEqual(Board([("a", "b", "c"), ("-a", "d", "e")]).corners(), 4)
        self.assertEqual(Board([("a", "b", "c"), ("a", "d", "e")]).corners(), 4)

    def test_signs_tell_which_ends_come_together(self):
        # Joined against, two cells make a bag of two corners' rim; joined straight, all comes otherwise.
        self.assertEqual(Board([("a", "b", "c"), ("-b", "-a", "d")]).corners(), 3)
        self.assertEqual(Board([("a", "b", "c"), ("b", "a", "d")]).corners(), 2)
        self.assertEqual(Board([("a", "b", "c"), ("-a", "-b", "d")]).corners(), 2)

    def test_closed_boards_of_eight_cells(self):
        chance = random.Random(102)
        seen = set()
        for cells in some_boards(103, 300):
            if len(cells) == 8:
                self.assertEqual(Board(cells).corners(), plain.corners(cells))
                seen.add(Board(cells).corners())
            # Naming all sides the other way changes nothing.
            name = chance.choice(Board(cells).sides())
            turned = [tuple(plain.against(side) if plain.name_of(side) == name else side for side in cell) for cell in cells]
            self.assertEqual(Board(turned).corners(), Board(cells).corners())
        self.assertGreater(len(seen), 4)


class BadBoardTest(unittest.TestCase):
    def refused(self, cells, expected):
        ahead = list(cells)
        with self.assertRaises(BadBoard) as caught:
            Board(cells)
        self.assertEqual((caught.exception.cell, caught.exception.word), (expected, "BadBoard"))
        self.assertEqual(list(cells), ahead)

    def test_no_cell(self):
        self.refused([], 0)
        self.refused((), 0)

    def test_a_ninth_cell(self):
        self.refused(eight() + [("x", "y", "za")], 8)
        self.refused(eight() + [("x", "y", "za"), ("xx", "yy", "zc")], 8)
        self.refused(eight() + [("A", "y", "za")], 8)
        self.refused([("a", "a", "b")] + eight()[1:] + [("a", "y", "za")], 8)

    def test_sides_that_are_none(self):
        for side in NO_SIDES:
            for k in range(3):
                for at in range(4):
                    cells = list(FOUR)
                    cell = list(cells[at])
                    cell[k] = side
                    cells[at] = tuple(cell)
                    with self.subTest(side=side, at=at, k=k):
                        self.refused(cells, at)

    def test_cells_of_other_than_three_sides(self):
        for cell in [(), ("x",), ("x", "y"), ("x", "y", "za", "zb")]:
            self.refused([cell], 0)
            self.refused(FOUR[:2] + [cell], 2)

    def test_a_name_for_the_third_time(self):
        self.refused([("a", "a", "a")], 0)
        self.refused([("a", "-a", "a")], 0)
        self.refused([("a", "b", "c"), ("a", "-d", "-a")], 1)
        self.refused([("a", "b", "c"), ("a", "d", "e"), ("f", "g", "h"), ("i", "j", "-a")], 3)
        self.refused([("a", "a", "c"), ("f", "g", "h"), ("-a", "d", "e")], 2)
        self.refused([("a", "b", "c"), ("a", "b", "c"), ("a", "b", "c")], 2)
        # Names are the same only where all of them is.
        Board([("a", "a", "aa"), ("aa", "aaa", "aaaa"), ("aaa", "-aaaa", "b")])

    def test_the_first_of_several(self):
        self.refused([("a", "b", "c"), ("a", "a", "d"), ("A", "e", "f")], 1)
        self.refused([("a", "b", "c"), ("A", "e", "f"), ("a", "a", "d")], 1)
        self.refused([("A", "b", "c"), ("A", "e", "f")], 0)
        self.refused([("a", "b", "c"), ("a", "d", "e"), ("a", "f", "g"), ("a", "h", "i")], 2)
        self.refused(eight()[:7] + [("b", "b", "x")] + [("y", "z", "za")], 7)
        self.refused(eight()[:7] + [("x", "y-", "za")] + [("xx", "yy", "zc")], 7)
        self.refused([("", "b", "c")] + eight()[1:] + [("xx", "yy", "zc")], 0)


class EqualTest(unittest.TestCase):
    def test_where_cells_are(self):
        for cells in SMALL:
            self.assertTrue(Board(cells) == Board(list(cells)))
            self.assertFalse(Board(cells) != Board(list(cells)))
            for others in SMALL:
                self.assertEqual(Board(cells) == Board(others), cells == others)
                self.assertEqual(Board(cells) != Board(others), cells != others)

    def test_turned_round_or_in_another_order_it_is_another(self):
        board = Board(FOUR)
        for cells in (FOUR[::-1], FOUR[:3], [FOUR[0][1:] + FOUR[0][:1]] + FOUR[1:], [("-a", "b", "c")] + FOUR[1:]):
            self.assertFalse(board == Board(cells))
            self.assertTrue(board != Board(cells))

    def test_never_equal_to_another_kind(self):
        for other in (FOUR, tuple(FOUR), 4, None, "Board", {}, object()):
            self.assertFalse(Board(FOUR) == other)
            self.assertTrue(Board(FOUR) != other)


class FlippedTest(unittest.TestCase):
    def test_by_hand(self):
        # (e, p, q) and (-e, r, s) become (e, s, p) and (-e, q, r).
        board = Board([("e", "p", "q"), ("-e", "r", "s")])
        self.assertEqual(board.flipped("e").cells(), [("e", "s", "p"), ("-e", "q", "r")])
        # Read from it on.
        board = Board([("x", "y", "z"), ("-p", "-q", "-e"), ("r", "s", "e")])
        self.assertEqual(board.flipped("e").cells(), [("x", "y", "z"), ("-e", "s", "-p"), ("e", "-q", "r")])
        # Standing the same way, the second one is read backwards: (r, s, e) as (-e, -s, -r).
        board = Board([("p", "q", "e"), ("r", "s", "e")])
        self.assertEqual(board.flipped("e").cells(), [("e", "-r", "p"), ("-e", "q", "-s")])
        # Likewise (r, -e, -s) as (s, e, -r), and from it on (e, -r, s).
        board = Board([("q", "-e", "p"), ("x", "y", "z"), ("r", "-e", "-s")])
        self.assertEqual(board.flipped("e").cells(), [("-e", "s", "p"), ("x", "y", "z"), ("e", "q", "-r")])

    def test_each_side(self):
        flipped = 0
        for cells in some_boards(104, 150):
            board = Board(cells)
            for side in board.sides():
                if plain.can_flip(cells, side):
                    told = board.flipped(side)
                    self.assertIsInstance(told, Board)
                    self.assertEqual(told.cells(), plain.flip(cells, dict.fromkeys(board.sides(), 0), side)[0])
                    self.assertEqual((told.sides(), told.rim()), (board.sides(), board.rim()))
                    self.assertEqual(told.corners(), board.corners())
                    flipped += 1
                else:
                    with self.assertRaises(BadSide) as caught:
                        board.flipped(side)
                    self.assertEqual((caught.exception.side, caught.exception.word), (side, "BadSide"))
                self.assertEqual(board.cells(), cells)
        self.assertGreater(flipped, 300)

    def test_back_again(self):
        board = Board([("e", "p", "q"), ("-e", "r", "s")])
        twice = board.flipped("e").flipped("e")
        self.assertEqual(twice.cells(), [("e", "r", "s"), ("-e", "p", "q")])
        self.assertEqual(twice.flipped("e").flipped("e"), board)
        for cells in some_boards(105, 60):
            for side in Board(cells).sides():
                if plain.can_flip(cells, side):
                    once = Board(cells).flipped(side)
                    # From the first flip on the side stands first, and against itself, in both cells.
                    self.assertEqual(once.flipped(side).flipped(side).flipped(side).flipped(side), once)

    def test_no_side(self):
        board = Board([("e", "p", "q"), ("-e", "r", "r")])
        for side in ("a", "-e", "", "-", "E", "ee", "pq"):
            with self.assertRaises(NoSide) as caught:
                board.flipped(side)
            self.assertEqual((caught.exception.side, caught.exception.word), (side, "NoSide"))

    def test_bad_side(self):
        board = Board([("e", "p", "q"), ("-e", "r", "r"), ("s", "t", "-s")])
        for side in ("p", "q", "r", "s", "t"):
            with self.assertRaises(BadSide) as caught:
                board.flipped(side)
            self.assertEqual(caught.exception.side, side)
        self.assertEqual(board.flipped("e").cells(), [("e", "r", "p"), ("-e", "q", "r"), ("s", "t", "-s")])


if __name__ == "__main__":
    unittest.main()
