import itertools
import unittest

from blockturn.again import comes_again, moves, rings
from blockturn.blocks import named, rule_back
from blockturn.boards import moved
from blockturn.errors import TooLong, TooMany
from blockturn.running import forward
from helpers import SIZES, cycled, made, scattered, stepped, with_ones

# The three boards of one colour become one another, and nothing else changes.
ROUND = cycled(81, (0, 40, 80))


def two_on(board, rule, colours, moment):
    return stepped(stepped(board, rule, colours, moment), rule, colours, moment + 1)


def steps_till_again(board, rule, colours, moment):
    steps, now = 2, two_on(board, rule, colours, moment)
    while now != board:
        steps, now = steps + 2, two_on(now, rule, colours, moment)
    return steps


def rings_counted(rule, colours, width, height):
    """Each board by itself: a ring of n boards is met n times."""
    met = {}
    for cells in itertools.product(range(colours), repeat=width * height):
        board = tuple(cells[start:start + width] for start in range(0, width * height, width))
        length = steps_till_again(board, rule, colours, 0) // 2
        met[length] = met.get(length, 0) + 1
    return sorted((length, many // length) for length, many in met.items())


class ComesAgain(unittest.TestCase):
    """Point 10: when a board comes again."""

    def check(self, board, rule, colours, moment, right):
        with self.subTest(board=board, colours=colours, moment=moment):
            for most in (right, right + 1, right + 2, max(right, 1000)):
                answer = comes_again(board, rule, colours, moment, most)
                self.assertEqual(answer, right)
                self.assertIs(type(answer), int)
            for most in (0, 1, right - 2, right - 1):
                with self.assertRaises(TooLong):
                    comes_again(board, rule, colours, moment, most)

    def test_a_board_that_stays(self):
        for moment in (-2, -1, 0, 1):
            self.check(((0, 1), (1, 1)), list(range(16)), 2, moment, 2)
            self.check(made(16, 16, 3), list(range(81)), 3, moment, 2)
            self.check(with_ones(4, 6), named("billiard"), 2, moment, 2)

    def test_a_one_that_runs_round(self):
        for width, height, right in ((2, 2, 2), (4, 4, 4), (6, 4, 12), (4, 10, 20), (16, 6, 48), (16, 14, 112)):
            for moment in (-3, -2, -1, 0, 1, 2):
                self.check(with_ones(width, height, (1, 0)), named("billiard"), 2, moment, right)

    def test_quarter_by_quarter(self):
        for moment in (-1, 0, 1):
            self.check(((0, 1), (1, 1)), named("turn"), 2, moment, 4)
            self.check(((0, 1), (1, 0)), named("turn"), 2, moment, 2)

    def test_the_number_of_steps_is_even(self):
        # The board is the same behind three steps, but at a moment of the other sort.
        for width, height in ((2, 2), (6, 4), (16, 16)):
            for moment in (-3, -2, 0, 1):
                board = ((1,) * width,) * height
                self.assertEqual(forward(board, ROUND, 3, moment, 3), board)
                self.check(board, ROUND, 3, moment, 6)

    def test_from_even_and_odd_moments_by_a_second_way(self):
        differing = 0
        for colours in SIZES:
            for rule in (scattered(colours), cycled(SIZES[colours], (1, 3, 7, 2))):
                for width, height in ((2, 2), (4, 2), (2, 4)):
                    board = made(width, height, colours)
                    even = steps_till_again(board, rule, colours, 0)
                    odd = steps_till_again(board, rule, colours, 1)
                    differing += even != odd
                    for moment in (-4, 0, 2):
                        self.check(board, rule, colours, moment, even)
                    for moment in (-3, 1, 5):
                        self.check(board, rule, colours, moment, odd)
        self.assertGreater(differing, 0)

    def test_far_too_long(self):
        for moment in (-1, 0, 1):
            with self.subTest(moment=moment), self.assertRaises(TooLong):
                comes_again(made(16, 16, 3), scattered(3), 3, moment, 1000)


class Moves(unittest.TestCase):
    """Point 8: which moves make of a board what it is behind some steps."""

    def test_a_one_that_runs(self):
        rule = named("billiard")
        for place, moment, steps, right in (
            ((0, 0), 0, 0, (0, 0)),
            ((0, 0), 0, 2, (2, 2)),
            ((0, 0), -2, 2, (2, 2)),
            ((0, 0), 0, 4, (4, 0)),
            ((0, 0), 1, 2, (4, 2)),
            ((0, 0), -1, 2, (4, 2)),
            ((3, 2), 0, 2, (4, 2)),
            ((2, 3), 0, 4, (4, 0)),
            ((3, 2), 1, 4, (4, 0)),
            ((2, 3), 1, 8, (4, 0)),
            ((1, 1), 1, 200, (2, 0)),
        ):
            with self.subTest(place=place, moment=moment, steps=steps):
                self.assertEqual(moves(with_ones(6, 4, place), rule, 2, moment, steps), [right])

    def test_none_fits(self):
        rule = named("billiard")
        board = with_ones(8, 8, (0, 0), (5, 0))
        self.assertEqual(moves(board, rule, 2, 0, 2), [])
        self.assertEqual(moves(board, rule, 2, 1, 2), [])
        self.assertEqual(moves(((0, 1), (1, 1)), named("turn"), 2, 0, 2), [])

    def test_several_fit(self):
        rule = named("billiard")
        board = with_ones(8, 4, (0, 0), (4, 0))
        self.assertEqual(moves(board, rule, 2, 0, 0), [(0, 0), (4, 0)])
        self.assertEqual(moves(board, rule, 2, 0, 2), [(2, 2), (6, 2)])
        self.assertEqual(moves(board, rule, 2, 1, 2), [(2, 2), (6, 2)])
        tall = with_ones(4, 8, (0, 0), (0, 4))
        self.assertEqual(moves(tall, rule, 2, 0, 2), [(2, 2), (2, 6)])

    def test_all_fit(self):
        for moment in (-1, 0, 1):
            self.assertEqual(
                moves(with_ones(4, 6), named("critters"), 2, moment, 2),
                [(0, 0), (0, 2), (0, 4), (2, 0), (2, 2), (2, 4)])
            self.assertEqual(
                moves(with_ones(6, 2), named("critters"), 2, moment, 200), [(0, 0), (2, 0), (4, 0)])
            self.assertEqual(moves(((1, 0), (0, 0)), list(range(16)), 2, moment, 2), [(0, 0)])
            self.assertEqual(len(moves(((2,) * 16,) * 16, list(range(81)), 3, moment, 2)), 64)

    def test_odd_pairs_are_left_out(self):
        board = ((0, 1, 0, 1), (1, 0, 1, 0), (0, 1, 0, 1), (1, 0, 1, 0))
        self.assertEqual(moved(board, 1, 1), board)
        self.assertEqual(moves(board, list(range(16)), 2, 0, 0), [(0, 0), (0, 2), (2, 0), (2, 2)])

    def test_by_a_second_way(self):
        for colours in SIZES:
            for width, height in ((2, 2), (4, 6), (8, 4)):
                half = tuple(row * 2 for row in made(width // 2, height, colours))
                for board in (half, made(width, height, colours)):
                    for rule in (scattered(colours), list(range(SIZES[colours]))):
                        for moment in (-1, 0, 1):
                            for steps in (0, 2, 6):
                                now = board
                                for passed in range(steps):
                                    now = stepped(now, rule, colours, moment + passed)
                                right = sorted(
                                    (a, b) for b in range(0, height, 2) for a in range(0, width, 2)
                                    if all(now[(y + b) % height][(x + a) % width] == board[y][x]
                                           for y in range(height) for x in range(width)))
                                with self.subTest(colours=colours, width=width, moment=moment, steps=steps):
                                    self.assertEqual(moves(board, rule, colours, moment, steps), right)

    def test_pairs_of_whole_numbers(self):
        answer = moves(with_ones(4, 4), named("billiard"), 2, 0, 2)
        self.assertIs(type(answer), list)
        for pair in answer:
            self.assertIs(type(pair), tuple)
            self.assertEqual([type(number) for number in pair], [int, int])


class Rings(unittest.TestCase):
    """Point 11: rings, and all rings of all boards of a size."""

    SHAPES = ((2, 2, 2), (3, 2, 2), (2, 4, 2), (2, 2, 4))

    def rules(self, colours):
        size = SIZES[colours]
        rules = [list(range(size)), scattered(colours), cycled(size, (1, 3, 7, 2)), cycled(size, (0, 3, 4))]
        return rules + [named(name) for name in ("turn", "billiard", "critters") if colours == 2]

    def test_by_hand(self):
        self.assertEqual(rings(list(range(16)), 2, 2, 2), [(1, 16)])
        self.assertEqual(rings(list(range(81)), 3, 2, 2), [(1, 81)])
        self.assertEqual(rings(list(range(16)), 2, 4, 2), [(1, 256)])
        self.assertEqual(rings(list(range(16)), 2, 2, 4), [(1, 256)])
        # Two steps turn a board of one block by a half: four boards look alike then.
        self.assertEqual(rings(named("turn"), 2, 2, 2), [(1, 4), (2, 6)])
        self.assertEqual(rings(ROUND, 3, 2, 2), [(1, 78), (3, 1)])
        # Each cell becomes the other colour, twice.
        self.assertEqual(rings(list(range(15, -1, -1)), 2, 4, 2), [(1, 256)])

    def test_by_a_second_way(self):
        for colours, width, height in self.SHAPES:
            for rule in self.rules(colours):
                with self.subTest(colours=colours, width=width, height=height, rule=rule):
                    self.assertEqual(rings(rule, colours, width, height), rings_counted(rule, colours, width, height))

    def test_width_and_height_are_told_apart(self):
        self.assertNotEqual(rings(scattered(2), 2, 4, 2), rings(scattered(2), 2, 2, 4))

    def test_each_board_lies_on_just_one(self):
        for colours, width, height in self.SHAPES:
            for rule in self.rules(colours):
                answer = rings(rule, colours, width, height)
                with self.subTest(colours=colours, width=width, height=height, rule=rule):
                    self.assertEqual(sum(length * many for length, many in answer), colours ** (width * height))
                    lengths = [length for length, many in answer]
                    self.assertEqual(lengths, sorted(set(lengths)))
                    self.assertTrue(all(many > 0 for length, many in answer))

    def test_the_rule_back_has_the_same(self):
        for colours, width, height in self.SHAPES:
            for rule in self.rules(colours):
                with self.subTest(colours=colours, width=width, height=height, rule=rule):
                    self.assertEqual(
                        rings(rule_back(rule), colours, width, height), rings(rule, colours, width, height))

    def test_a_list_of_tuples(self):
        answer = rings(scattered(2), 2, 4, 2)
        self.assertIs(type(answer), list)
        for pair in answer:
            self.assertIs(type(pair), tuple)
            self.assertEqual([type(number) for number in pair], [int, int])

    def test_too_many(self):
        for colours, width, height in (
            (2, 6, 2), (2, 2, 6), (2, 4, 4), (3, 4, 2), (3, 2, 4), (2, 16, 2), (3, 2, 16),
            (2, 16, 16), (3, 16, 16), (2, 18, 18), (3, 20, 18),
        ):
            with self.subTest(colours=colours, width=width, height=height), self.assertRaises(TooMany):
                rings(scattered(colours), colours, width, height)
