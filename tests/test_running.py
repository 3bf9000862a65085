import unittest

from blockturn.blocks import named, rule_back
from blockturn.boards import keeps, looked_board, moved, total, turned_board, turned_rule
from blockturn.running import back, forward
from helpers import HUGE, SIZES, cycled, made, scattered, stepped, with_cell, with_ones

SHAPES = ((2, 2), (2, 4), (4, 2), (6, 4), (2, 16), (16, 2), (10, 14), (16, 16))
MOMENTS = (-1000001, -8, -3, -2, -1, 0, 1, 2, 3, 7, 1000000)


def rules_of(colours):
    rules = [scattered(colours), rule_back(scattered(colours)), cycled(SIZES[colours], (1, 5, 7, 2))]
    if colours == 2:
        rules += [named("turn"), named("billiard"), named("critters")]
    return rules


def stepped_on(board, rule, colours, moment, steps):
    for passed in range(steps):
        board = stepped(board, rule, colours, moment + passed)
    return board


class Steps(unittest.TestCase):
    """Point 3: the blocks of a moment, and steps."""

    def test_a_board_that_is_not_square_by_hand(self):
        board = ((1, 0, 0, 1), (0, 0, 1, 1))
        rule = named("turn")
        for moment in (-4, -2, 0, 2, 10 ** 40):
            with self.subTest(moment=moment):
                self.assertEqual(forward(board, rule, 2, moment, 1), ((0, 1, 1, 0), (0, 0, 1, 1)))
        for moment in (-3, -1, 1, 3, 10 ** 40 + 1):
            with self.subTest(moment=moment):
                self.assertEqual(forward(board, rule, 2, moment, 1), ((0, 0, 1, 1), (1, 0, 0, 1)))

    def test_two_steps_by_hand(self):
        board = ((1, 0, 0, 1), (0, 0, 1, 1))
        # Behind the first step it is ((0, 1, 1, 0), (0, 0, 1, 1)); then (0, 1, 1, 1) at (1, 1) becomes
        # (1, 0, 1, 1), and (1, 0, 0, 0) at (3, 1), over the rim, becomes (0, 1, 0, 0).
        self.assertEqual(forward(board, named("turn"), 2, 0, 2), ((0, 1, 1, 0), (1, 1, 0, 0)))

    def test_the_least_board_by_hand(self):
        # (0, 0, 1, 2) becomes (0, 1, 2, 2), and (0, 1, 2, 2) becomes (0, 0, 0, 1).
        rule = cycled(81, (5, 17, 1))
        self.assertEqual(forward(((0, 0), (1, 2)), rule, 3, 0, 1), ((0, 1), (2, 2)))
        self.assertEqual(forward(((0, 0), (1, 2)), rule, 3, -2, 1), ((0, 1), (2, 2)))
        self.assertEqual(forward(((0, 0), (1, 2)), rule, 3, 1, 1), ((0, 0), (1, 2)))
        self.assertEqual(forward(((2, 1), (0, 0)), rule, 3, 1, 1), ((2, 2), (1, 0)))
        self.assertEqual(forward(((2, 1), (0, 0)), rule, 3, -1, 1), ((2, 2), (1, 0)))
        self.assertEqual(forward(((2, 1), (0, 0)), rule, 3, 0, 1), ((2, 1), (0, 0)))
        self.assertEqual(forward(((2, 2), (1, 0)), rule, 3, -3, 1), ((1, 0), (0, 0)))

    def test_over_the_rim_of_the_greatest_board(self):
        rule = named("billiard")
        for place, even, odd in (
            ((0, 0), (1, 1), (15, 15)),
            ((15, 0), (14, 1), (0, 15)),
            ((0, 15), (1, 14), (15, 0)),
            ((15, 15), (14, 14), (0, 0)),
            ((7, 0), (6, 1), (8, 15)),
            ((0, 7), (1, 6), (15, 8)),
        ):
            with self.subTest(place=place):
                board = with_ones(16, 16, place)
                self.assertEqual(forward(board, rule, 2, 0, 1), with_ones(16, 16, even))
                self.assertEqual(forward(board, rule, 2, 1, 1), with_ones(16, 16, odd))
                self.assertEqual(forward(board, rule, 2, -1, 1), with_ones(16, 16, odd))

    def test_each_step_by_a_second_way(self):
        for colours in SIZES:
            for width, height in SHAPES:
                board = made(width, height, colours)
                for rule in rules_of(colours):
                    for moment in MOMENTS:
                        with self.subTest(colours=colours, width=width, height=height, moment=moment):
                            self.assertEqual(
                                forward(board, rule, colours, moment, 1), stepped(board, rule, colours, moment))

    def test_many_steps_by_a_second_way(self):
        for colours in SIZES:
            board, rule = made(6, 4, colours), scattered(colours)
            for moment in (-7, -4, 0, 3):
                for steps in (2, 3, 8, 199, 200):
                    with self.subTest(colours=colours, moment=moment, steps=steps):
                        self.assertEqual(
                            forward(board, rule, colours, moment, steps),
                            stepped_on(board, rule, colours, moment, steps))

    def test_no_steps(self):
        for colours in SIZES:
            for moment in MOMENTS:
                board = made(10, 4, colours)
                with self.subTest(colours=colours, moment=moment):
                    self.assertEqual(forward(board, scattered(colours), colours, moment, 0), board)
                    self.assertEqual(back(board, scattered(colours), colours, moment, 0), board)

    def test_two_hundred_steps_and_somewhat_more(self):
        # A single 1 runs on by one place each way at each step.
        rule = named("billiard")
        board = with_ones(16, 6, (0, 0))
        for steps in (199, 200, 201, 250):
            place = (steps % 16, steps % 6)
            with self.subTest(steps=steps):
                self.assertEqual(forward(board, rule, 2, 0, steps), with_ones(16, 6, place))
                self.assertEqual(forward(board, rule, 2, -200, steps), with_ones(16, 6, place))
                self.assertEqual(back(with_ones(16, 6, place), rule, 2, steps, steps), board)

    def test_moments_of_very_many_figures(self):
        board = made(6, 4, 2)
        rule = named("critters")
        for moment in (HUGE, HUGE + 1, -HUGE, -HUGE - 1):
            self.assertEqual(forward(board, rule, 2, moment, 3), forward(board, rule, 2, moment % 2, 3))
            self.assertEqual(back(board, rule, 2, moment, 3), back(board, rule, 2, moment % 2, 3))

    def test_the_answers_are_boards(self):
        for colours in SIZES:
            for width, height in SHAPES:
                board = made(width, height, colours)
                for run in (forward, back):
                    for steps in (0, 1, 2):
                        answer = run(board, scattered(colours), colours, 1, steps)
                        with self.subTest(colours=colours, width=width, height=height, steps=steps):
                            self.assertIs(type(answer), tuple)
                            self.assertEqual({type(row) for row in answer}, {tuple})
                            self.assertEqual(looked_board(answer, colours), (width, height))

    def test_boards_somewhat_beyond_the_greatest(self):
        board = made(18, 20, 2)
        rule = named("critters")
        self.assertEqual(forward(board, rule, 2, 1, 3), stepped_on(board, rule, 2, 1, 3))
        self.assertEqual(back(forward(board, rule, 2, 1, 3), rule, 2, 4, 3), board)


class Back(unittest.TestCase):
    """Point 4: going back."""

    def test_one_step_by_hand(self):
        board = ((1, 0, 0, 1), (0, 0, 1, 1))
        rule = named("turn")
        for moment in (-3, -1, 1, 3):
            with self.subTest(moment=moment):
                self.assertEqual(back(((0, 1, 1, 0), (0, 0, 1, 1)), rule, 2, moment, 1), board)
        for moment in (-2, 0, 2, 4):
            with self.subTest(moment=moment):
                self.assertEqual(back(((0, 0, 1, 1), (1, 0, 0, 1)), rule, 2, moment, 1), board)

    def test_one_step_by_a_second_way(self):
        for colours in SIZES:
            board, rule = made(6, 10, colours), scattered(colours)
            for moment in MOMENTS:
                with self.subTest(colours=colours, moment=moment):
                    self.assertEqual(
                        back(board, rule, colours, moment, 1),
                        stepped(board, rule_back(rule), colours, moment - 1))

    def test_there_and_back_either_way_first(self):
        for colours in SIZES:
            for width, height in SHAPES:
                board = made(width, height, colours)
                for rule in rules_of(colours):
                    for moment in (-6, -3, -1, 0, 1, 4):
                        for steps in (1, 2, 5):
                            behind = forward(board, rule, colours, moment, steps)
                            ahead = back(board, rule, colours, moment, steps)
                            with self.subTest(colours=colours, width=width, height=height, steps=steps):
                                self.assertEqual(back(behind, rule, colours, moment + steps, steps), board)
                                self.assertEqual(forward(ahead, rule, colours, moment - steps, steps), board)

    def test_two_hundred_steps_there_and_back(self):
        for colours in SIZES:
            board, rule = made(6, 4, colours), scattered(colours)
            for moment in (-101, -100, 0, 1):
                behind = forward(board, rule, colours, moment, 200)
                with self.subTest(colours=colours, moment=moment):
                    self.assertNotEqual(behind, board)
                    self.assertEqual(back(behind, rule, colours, moment + 200, 200), board)

    def test_in_two_goes_as_in_one(self):
        for colours in SIZES:
            board, rule = made(4, 6, colours), scattered(colours)
            for moment in (-5, -2, 0, 3):
                for first, second in ((0, 3), (1, 1), (1, 4), (2, 3), (5, 0)):
                    with self.subTest(colours=colours, moment=moment, first=first, second=second):
                        midway = forward(board, rule, colours, moment, first)
                        self.assertEqual(
                            forward(midway, rule, colours, moment + first, second),
                            forward(board, rule, colours, moment, first + second))
                        midway = back(board, rule, colours, moment, first)
                        self.assertEqual(
                            back(midway, rule, colours, moment - first, second),
                            back(board, rule, colours, moment, first + second))


class Totals(unittest.TestCase):
    """Point 6: where a rule keeps weights no step changes the total."""

    def test_kept(self):
        for colours, rule, weights in (
            (2, named("turn"), [0, 1]),
            (2, named("billiard"), [-4, 9]),
            (2, named("critters"), [3, 3]),
            (3, cycled(81, (2, 4)), [0, 1, 2]),
            (3, cycled(81, (2, 4, 12)), [10 ** 60, 0, -10 ** 60]),
        ):
            self.assertIs(keeps(rule, colours, weights), True)
            for width, height in ((2, 2), (6, 4), (16, 10)):
                board = made(width, height, colours)
                for moment in (-3, -2, 0, 1):
                    for steps in (0, 1, 2, 9):
                        with self.subTest(rule=rule, width=width, moment=moment, steps=steps):
                            right = total(board, weights)
                            self.assertEqual(total(forward(board, rule, colours, moment, steps), weights), right)
                            self.assertEqual(total(back(board, rule, colours, moment, steps), weights), right)

    def test_not_kept(self):
        board = ((0, 0, 0, 0), (0, 0, 1, 0))
        rule = named("critters")
        self.assertIs(keeps(rule, 2, [0, 1]), False)
        self.assertEqual(total(board, [0, 1]), 1)
        self.assertEqual(total(forward(board, rule, 2, 0, 1), [0, 1]), 7)
        self.assertEqual(total(back(board, rule, 2, 1, 1), [0, 1]), 7)


class Turned(unittest.TestCase):
    """Point 7: turning and stepping may change places, where the rule is turned too."""

    def test_forward_and_back(self):
        for colours in SIZES:
            for width, height in ((6, 4), (2, 10), (4, 4)):
                board = made(width, height, colours)
                for rule in (scattered(colours), cycled(SIZES[colours], (1, 3, 7))):
                    for turning in range(8):
                        other_rule = turned_rule(rule, colours, turning)
                        other_board = turned_board(board, turning)
                        for moment in (-3, -2, 0, 1):
                            for steps in (1, 2, 5):
                                for run in (forward, back):
                                    with self.subTest(colours=colours, turning=turning, moment=moment, steps=steps):
                                        self.assertEqual(
                                            run(other_board, other_rule, colours, moment, steps),
                                            turned_board(run(board, rule, colours, moment, steps), turning))


class Moved(unittest.TestCase):
    """Point 8: moving and stepping."""

    def check(self, pairs, later):
        """Moved boards at a moment go as the boards so much later, moved."""
        for colours in SIZES:
            board, rule = made(6, 4, colours), scattered(colours)
            for a, b in pairs:
                for moment in (-3, -2, 0, 1):
                    for steps in (1, 2, 5):
                        for run in (forward, back):
                            with self.subTest(colours=colours, a=a, b=b, moment=moment, steps=steps):
                                self.assertEqual(
                                    run(moved(board, a, b), rule, colours, moment, steps),
                                    moved(run(board, rule, colours, moment + later, steps), a, b))

    def test_even_pairs(self):
        self.check(((0, 0), (2, 0), (0, 2), (-2, 4), (-4, -6), (10 ** 40, -10 ** 40)), 0)

    def test_odd_pairs(self):
        self.check(((1, 1), (1, -1), (-3, 5), (-1, -7), (10 ** 40 + 1, 3 - 10 ** 40)), 1)


def away(one, other, size):
    return min((one - other) % size, (other - one) % size)


class Differences(unittest.TestCase):
    """Point 9: how far a difference runs."""

    def differing(self, one, other):
        return [
            (x, y) for y, row in enumerate(one) for x, colour in enumerate(row) if other[y][x] != colour]

    def test_one_cell(self):
        for colours in SIZES:
            for width, height in ((10, 12), (16, 8)):
                board = made(width, height, colours)
                for x, y in ((5, 6), (4, 3), (0, 0), (width - 1, 5), (4, height - 1), (width - 1, height - 1)):
                    other = with_cell(board, x, y, (board[y][x] + 1) % colours)
                    for rule in rules_of(colours):
                        for moment in (-1, 0, 1, 2):
                            for steps in range(4):
                                found = self.differing(
                                    forward(board, rule, colours, moment, steps),
                                    forward(other, rule, colours, moment, steps))
                                with self.subTest(colours=colours, x=x, y=y, moment=moment, steps=steps):
                                    self.assertTrue(found)
                                    for right, down in found:
                                        self.assertLessEqual(away(right, x, width), steps)
                                        self.assertLessEqual(away(down, y, height), steps)

    def test_just_so_far_and_round_the_rim(self):
        blank = with_ones(10, 8)
        rule = named("billiard")
        for steps in range(4):
            with self.subTest(steps=steps):
                self.assertEqual(
                    self.differing(
                        forward(blank, rule, 2, 0, steps),
                        forward(with_ones(10, 8, (9, 7)), rule, 2, 0, steps)),
                    [(9 - steps, 7 - steps)])
                self.assertEqual(
                    self.differing(
                        forward(blank, rule, 2, 1, steps),
                        forward(with_ones(10, 8, (9, 7)), rule, 2, 1, steps)),
                    [((9 + steps) % 10, (7 + steps) % 8)])
