import unittest

from blockturn.blocks import named
from blockturn.boards import looked_board, moved
from blockturn.errors import NoBoard
from helpers import HUGE, made, stepped, with_cell

EVEN = range(2, 17, 2)


def with_row(board, y, row):
    return board[:y] + (row,) + board[y + 1:]


class Looked(unittest.TestCase):
    """Point 1: what a board is."""

    def refused(self, board, colours=2):
        with self.assertRaises(NoBoard):
            looked_board(board, colours)

    def test_every_size_told_as_width_and_height(self):
        for colours in (2, 3):
            for width in EVEN:
                for height in EVEN:
                    with self.subTest(colours=colours, width=width, height=height):
                        self.assertEqual(looked_board(made(width, height, colours), colours), (width, height))

    def test_least_and_greatest(self):
        self.assertEqual(looked_board(((0, 0), (0, 0)), 2), (2, 2))
        self.assertEqual(looked_board(((2,) * 16,) * 16, 3), (16, 16))
        self.assertEqual(looked_board(((1,) * 16,) * 2, 2), (16, 2))
        self.assertEqual(looked_board(((1,) * 2,) * 16, 2), (2, 16))

    def test_the_answer_is_a_tuple(self):
        self.assertIs(type(looked_board(((0, 1), (1, 0)), 2)), tuple)

    def test_no_rows_or_no_places(self):
        self.refused(())
        for height in (1, 2, 4, 16):
            with self.subTest(height=height):
                self.refused(((),) * height)

    def test_odd_numbers(self):
        for odd in range(1, 18, 2):
            for even in EVEN:
                with self.subTest(odd=odd, even=even):
                    self.refused(((0,) * even,) * odd)
                    self.refused(((0,) * odd,) * even)
            self.refused(((0,) * odd,) * odd)

    def test_too_large(self):
        for size in (18, 20, 32):
            for even in EVEN:
                with self.subTest(size=size, even=even):
                    self.refused(((0,) * even,) * size)
                    self.refused(((0,) * size,) * even)
            self.refused(((0,) * size,) * size)

    def test_one_row_of_another_length(self):
        board = made(6, 4, 2)
        for y in range(4):
            for length in (0, 2, 4, 5, 7, 8, 18):
                with self.subTest(y=y, length=length):
                    self.refused(with_row(board, y, (0,) * length))

    def test_colours_that_are_none(self):
        for colours in (2, 3):
            board = made(4, 6, colours)
            for x, y in ((0, 0), (3, 0), (0, 5), (3, 5), (1, 2)):
                for colour in (-1, -colours, colours, colours + 1, HUGE, -HUGE):
                    with self.subTest(colours=colours, x=x, y=y):
                        self.refused(with_cell(board, x, y, colour), colours)

    def test_the_third_colour_is_one_of_three_only(self):
        board = ((0, 1), (2, 1))
        self.assertEqual(looked_board(board, 3), (2, 2))
        self.refused(board, 2)


class Moved(unittest.TestCase):
    """Point 8: boards moved."""

    BOARD = ((0, 1, 2, 0), (1, 1, 0, 2))
    MOVES = (0, 1, 2, 3, -1, -2, -3, 7, -9, 1000, -1001, 10 ** 40 + 1, -10 ** 40 - 3)

    def test_written_out(self):
        self.assertEqual(moved(self.BOARD, 1, 0), ((0, 0, 1, 2), (2, 1, 1, 0)))
        self.assertEqual(moved(self.BOARD, -1, 0), ((1, 2, 0, 0), (1, 0, 2, 1)))
        self.assertEqual(moved(self.BOARD, 0, 1), ((1, 1, 0, 2), (0, 1, 2, 0)))
        self.assertEqual(moved(self.BOARD, 3, -1), ((1, 0, 2, 1), (1, 2, 0, 0)))
        tall = ((0, 1), (1, 1), (2, 0), (2, 1))
        self.assertEqual(moved(tall, 0, 1), ((2, 1), (0, 1), (1, 1), (2, 0)))
        self.assertEqual(moved(tall, 0, -1), ((1, 1), (2, 0), (2, 1), (0, 1)))
        self.assertEqual(moved(tall, 1, 2), ((0, 2), (1, 2), (1, 0), (1, 1)))

    def test_by_nought_and_once_round(self):
        for a, b in ((0, 0), (4, 0), (0, 2), (4, 2), (-4, -2), (400, -200), (4 * 10 ** 40, 2 * 10 ** 40)):
            with self.subTest(a=a, b=b):
                self.assertEqual(moved(self.BOARD, a, b), self.BOARD)

    def test_cell_by_cell(self):
        for width, height in ((2, 2), (4, 6), (16, 2), (2, 16), (16, 16)):
            board = made(width, height, 3)
            for a in self.MOVES:
                for b in self.MOVES:
                    result = moved(board, a, b)
                    with self.subTest(width=width, height=height, a=a, b=b):
                        self.assertEqual(looked_board(result, 3), (width, height))
                        for y in range(height):
                            for x in range(width):
                                self.assertEqual(result[(y + b) % height][(x + a) % width], board[y][x])

    def test_there_and_back(self):
        board = made(6, 4, 3)
        for a in self.MOVES:
            for b in self.MOVES:
                with self.subTest(a=a, b=b):
                    self.assertEqual(moved(moved(board, a, b), -a, -b), board)

    def test_a_moved_board_is_of_tuples(self):
        result = moved(self.BOARD, 1, 1)
        self.assertIs(type(result), tuple)
        self.assertEqual([type(row) for row in result], [tuple, tuple])

    def test_moving_and_stepping(self):
        board = made(6, 4, 2)
        rule = named("critters")
        for moment in (-1, 0, 1, 2):
            for a, b in ((0, 0), (2, 0), (0, -2), (4, 2), (-6, 8)):
                with self.subTest(moment=moment, a=a, b=b):
                    self.assertEqual(
                        stepped(moved(board, a, b), rule, 2, moment),
                        moved(stepped(board, rule, 2, moment), a, b))
            for a, b in ((1, 1), (-1, 3), (5, -7)):
                with self.subTest(moment=moment, a=a, b=b):
                    self.assertEqual(
                        stepped(moved(board, a, b), rule, 2, moment),
                        moved(stepped(board, rule, 2, moment + 1), a, b))
