import unittest

from blockturn.blocks import looked, named
from blockturn.boards import looked_board, turned_board, turned_rule
from helpers import SIZES, cycled, figures, made, scattered, stepped

WIDE = ((0, 1, 2, 0), (1, 1, 0, 2))
WIDE_TURNED = (
    ((0, 1, 2, 0), (1, 1, 0, 2)),
    ((1, 0), (1, 1), (0, 2), (2, 0)),
    ((2, 0, 1, 1), (0, 2, 1, 0)),
    ((0, 2), (2, 0), (1, 1), (0, 1)),
    ((0, 2, 1, 0), (2, 0, 1, 1)),
    ((2, 0), (0, 2), (1, 1), (1, 0)),
    ((1, 1, 0, 2), (0, 1, 2, 0)),
    ((0, 1), (1, 1), (2, 0), (0, 2)),
)
UNDOES = (0, 3, 2, 1, 4, 5, 6, 7)
# The four cells of a block turned by each turning, by their places in the block.
CELLS_TURNED = (
    (0, 1, 2, 3),
    (2, 0, 3, 1),
    (3, 2, 1, 0),
    (1, 3, 0, 2),
    (1, 0, 3, 2),
    (3, 1, 2, 0),
    (2, 3, 0, 1),
    (0, 2, 1, 3),
)


def number_turned(number, colours, turning):
    cells = figures(number, colours)
    return int("".join(str(cells[place]) for place in CELLS_TURNED[turning]), colours)


class TurnedBoard(unittest.TestCase):
    """Point 7: boards turned."""

    def test_a_board_that_is_not_square(self):
        for turning in range(8):
            with self.subTest(turning=turning):
                self.assertEqual(turned_board(WIDE, turning), WIDE_TURNED[turning])

    def test_a_tall_board(self):
        tall = ((0, 1), (1, 1), (2, 0), (2, 1))
        self.assertEqual(turned_board(tall, 1), ((2, 2, 1, 0), (1, 0, 1, 1)))
        self.assertEqual(turned_board(tall, 4), ((1, 0), (1, 1), (0, 2), (1, 2)))
        self.assertEqual(turned_board(tall, 5), ((1, 0, 1, 1), (2, 2, 1, 0)))

    def test_sizes(self):
        for turning in range(8):
            for width, height in ((2, 16), (16, 2), (6, 4), (16, 16), (2, 2)):
                board = made(width, height, 3)
                size = (height, width) if turning % 2 else (width, height)
                with self.subTest(turning=turning, width=width, height=height):
                    self.assertEqual(looked_board(turned_board(board, turning), 3), size)

    def test_each_turning_is_undone(self):
        for turning in range(8):
            with self.subTest(turning=turning):
                self.assertEqual(turned_board(turned_board(WIDE, turning), UNDOES[turning]), WIDE)

    def test_quarters_add_up(self):
        board = WIDE
        for turning in (1, 2, 3, 0):
            board = turned_board(board, 1)
            self.assertEqual(board, turned_board(WIDE, turning))

    def test_mirrored_first_and_then_turned(self):
        for quarters in range(4):
            with self.subTest(quarters=quarters):
                self.assertEqual(
                    turned_board(WIDE, 4 + quarters), turned_board(turned_board(WIDE, 4), quarters))

    def test_a_turned_board_is_of_tuples(self):
        for turning in range(8):
            board = turned_board(WIDE, turning)
            self.assertIs(type(board), tuple)
            self.assertEqual({type(row) for row in board}, {tuple})


class TurnedRule(unittest.TestCase):
    """Point 7: rules turned."""

    def test_two_colours_written_out(self):
        # Lower right alone, the lower row, and all but the upper left, each turned.
        cycles = (
            (1, 3, 7), (2, 10, 11), (8, 12, 14), (4, 5, 13),
            (2, 3, 11), (8, 10, 14), (4, 12, 13), (1, 5, 7),
        )
        rule = cycled(16, (1, 3, 7))
        for turning in range(8):
            with self.subTest(turning=turning):
                self.assertEqual(turned_rule(rule, 2, turning), cycled(16, cycles[turning]))

    def test_three_colours_written_out(self):
        # (0, 0, 1, 2), (0, 1, 2, 2) and (0, 0, 0, 1), each turned.
        cycles = (
            (5, 17, 1), (33, 61, 3), (63, 75, 27), (19, 47, 9),
            (7, 35, 3), (57, 69, 27), (45, 73, 9), (11, 23, 1),
        )
        rule = cycled(81, (5, 17, 1))
        for turning in range(8):
            with self.subTest(turning=turning):
                self.assertEqual(turned_rule(rule, 3, turning), cycled(81, cycles[turning]))

    def test_block_by_block(self):
        for colours in SIZES:
            rule = scattered(colours)
            for turning in range(8):
                result = turned_rule(rule, colours, turning)
                self.assertIs(type(result), list)
                looked(result, colours)
                for number, led in enumerate(rule):
                    with self.subTest(colours=colours, turning=turning, number=number):
                        self.assertEqual(
                            result[number_turned(number, colours, turning)],
                            number_turned(led, colours, turning))

    def test_each_turning_is_undone(self):
        for colours in SIZES:
            rule = scattered(colours)
            for turning in range(8):
                with self.subTest(colours=colours, turning=turning):
                    self.assertEqual(
                        turned_rule(turned_rule(rule, colours, turning), colours, UNDOES[turning]), rule)

    def test_the_named_rules_look_alike_from_each_side(self):
        for name in ("turn", "billiard", "critters"):
            for turning in range(4):
                with self.subTest(name, turning=turning):
                    self.assertEqual(turned_rule(named(name), 2, turning), named(name))
        self.assertNotEqual(turned_rule(named("turn"), 2, 4), named("turn"))

    def test_turning_and_stepping(self):
        for colours in SIZES:
            rule = scattered(colours)
            board = made(6, 4, colours)
            for turning in range(8):
                for moment in (-1, 0, 1, 2):
                    with self.subTest(colours=colours, turning=turning, moment=moment):
                        self.assertEqual(
                            stepped(turned_board(board, turning), turned_rule(rule, colours, turning),
                                    colours, moment),
                            turned_board(stepped(board, rule, colours, moment), turning))
