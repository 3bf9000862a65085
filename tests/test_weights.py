import unittest

from blockturn.blocks import named
from blockturn.boards import keeps, total
from helpers import MANY, cycled, made, stepped


class Keeps(unittest.TestCase):
    """Point 6: whether a rule keeps weights."""

    def test_two_colours(self):
        for weights in ([0, 1], [1, 0], [5, -3], [-7, -8], [MANY, MANY + 1], [-MANY, MANY]):
            with self.subTest(weights=weights):
                self.assertIs(keeps(named("turn"), 2, weights), True)
                self.assertIs(keeps(named("billiard"), 2, weights), True)
                self.assertIs(keeps(named("critters"), 2, weights), False)

    def test_all_weights_the_same(self):
        for weight in (0, 1, -4, MANY, -MANY):
            for name in ("turn", "billiard", "critters"):
                with self.subTest(name, weight=weight):
                    self.assertIs(keeps(named(name), 2, [weight] * 2), True)
            with self.subTest(weight=weight):
                self.assertIs(keeps(list(reversed(range(81))), 3, [weight] * 3), True)

    def test_the_rule_that_leads_nothing_elsewhere(self):
        self.assertIs(keeps(list(range(16)), 2, [3, -9]), True)
        self.assertIs(keeps(list(range(81)), 3, [3, -9, MANY]), True)

    def test_three_colours(self):
        # (0, 0, 0, 2) and (0, 0, 1, 1) weigh the same where 1 lies midway from 0 to 2.
        rule = cycled(81, (2, 4))
        for weights in ([0, 1, 2], [2, 1, 0], [-3, 0, 3], [5, 3, 1], [MANY, 0, -MANY], [-MANY, 1, MANY + 2]):
            with self.subTest(weights=weights):
                self.assertIs(keeps(rule, 3, weights), True)
        for weights in ([0, 1, 3], [0, 1, 0], [1, 0, 0], [-3, 1, 3], [MANY, 0, 1 - MANY], [MANY, MANY, MANY + 1]):
            with self.subTest(weights=weights):
                self.assertIs(keeps(rule, 3, weights), False)

    def test_one_block_out_of_line_is_enough(self):
        for number in range(0, 16, 2):
            with self.subTest(number=number):
                self.assertIs(keeps(cycled(16, (number, number + 1)), 2, [0, 1]), False)
        for number in (0, 39, 79):
            with self.subTest(number=number):
                self.assertIs(keeps(cycled(81, (number, number + 1)), 3, [0, 1, 3]), False)

    def test_each_block_by_itself_not_all_together(self):
        self.assertIs(keeps(cycled(16, (0, 15)), 2, [1, -1]), False)


class Total(unittest.TestCase):
    """Point 6: the total of a board."""

    def test_written_out(self):
        self.assertEqual(total(((0, 1), (1, 1)), [0, 1]), 3)
        self.assertEqual(total(((0, 1), (1, 1)), [10, 1]), 13)
        self.assertEqual(total(((0, 1, 2, 0), (1, 1, 0, 2)), [100, 10, 1]), 332)
        self.assertEqual(total(((0, 1), (2, 0), (1, 1), (0, 2)), [100, 10, 1]), 332)

    def test_below_nought_and_nought(self):
        board = ((0, 1, 2, 0), (1, 1, 0, 2))
        self.assertEqual(total(board, [-2, -3, -5]), -25)
        self.assertEqual(total(board, [-2, 2, 1]), 2)
        self.assertEqual(total(board, [0, 0, 0]), 0)

    def test_many_figures(self):
        board = ((0, 1, 2, 0), (1, 1, 0, 2))
        self.assertEqual(total(board, [MANY + 1, MANY, -MANY]), 4 * MANY + 3)

    def test_the_greatest_board(self):
        self.assertEqual(total(((1,) * 16,) * 16, [0, 3]), 768)
        self.assertEqual(total(((0,) * 16,) * 15 + ((2,) * 16,), [1, 0, -1]), 224)

    def test_no_step_changes_a_total_that_is_kept(self):
        board = made(6, 4, 2)
        weights = [-4, 9]
        for name in ("turn", "billiard"):
            now = board
            for moment in range(-3, 8):
                now = stepped(now, named(name), 2, moment)
                with self.subTest(name, moment=moment):
                    self.assertEqual(total(now, weights), total(board, weights))
