import unittest

from blockturn.again import comes_again, moves, rings
from blockturn.blocks import looked, named, number_of, rule_back
from blockturn.boards import keeps, looked_board, moved, total, turned_board, turned_rule
from blockturn.errors import BlockError, TooLong, TooMany
from blockturn.notes import board_shown, read_board, read_rule, rule_shown
from blockturn.running import back, forward
from helpers import SIZES, scattered

BOARD = ((0, 1, 1, 0), (1, 1, 0, 0))


def spoil(values):
    values[:1] = [-99]
    values.append(-98)


# Each answer that is a list, as a function of a rule that is handed in.
LISTS = {
    "rule_back": lambda rule, colours: rule_back(rule),
    "turned_rule 0": lambda rule, colours: turned_rule(rule, colours, 0),
    "turned_rule 1": lambda rule, colours: turned_rule(rule, colours, 1),
    "turned_rule 6": lambda rule, colours: turned_rule(rule, colours, 6),
    "moves": lambda rule, colours: moves(((1,) * 4,) * 2, rule, colours, 0, 0),
    "moves of none": lambda rule, colours: moves(BOARD, rule, colours, 0, 2),
    "rings": lambda rule, colours: rings(rule, colours, 2, 2),
    "read_rule": lambda rule, colours: read_rule(rule_shown(rule, colours))[1],
}


class HandedIn(unittest.TestCase):
    """Point 1: nothing that is handed in is changed or kept."""

    def test_rules_and_weights_stay(self):
        for colours in SIZES:
            rule = scattered(colours)
            given, weights = list(rule), [4, -5, 6][:colours]
            looked(given, colours)
            rule_back(given)
            keeps(given, colours, weights)
            for turning in range(8):
                turned_rule(given, colours, turning)
            total(BOARD, weights)
            for moment in (-1, 0, 1):
                forward(BOARD, given, colours, moment, 3)
                back(BOARD, given, colours, moment, 3)
                moves(BOARD, given, colours, moment, 2)
            rings(given, colours, 2, 2)
            rule_shown(given, colours)
            with self.subTest(colours=colours):
                self.assertEqual(given, rule)
                self.assertEqual(weights, [4, -5, 6][:colours])

    def test_rules_stay_where_a_board_comes_again_or_not(self):
        for colours in SIZES:
            rule = scattered(colours)
            given = list(rule)
            with self.subTest(colours=colours):
                with self.assertRaises(TooLong):
                    comes_again(BOARD, given, colours, 0, 2)
                comes_again(BOARD, given, colours, 0, 10 ** 6)
                with self.assertRaises(TooMany):
                    rings(given, colours, 16, 16)
                self.assertEqual(given, rule)

    def test_refused_rules_stay(self):
        for rule in ([0] * 16, [16] * 16, [3, 1], list(range(15, -1, -1)) + [0]):
            given = list(rule)
            with self.subTest(rule=rule):
                with self.assertRaises(BlockError):
                    looked(given, 2)
                self.assertEqual(given, rule)

    def test_boards_and_blocks_stay(self):
        looked_board(BOARD, 2)
        moved(BOARD, 3, 1)
        for turning in range(8):
            turned_board(BOARD, turning)
        for moment in (0, 1):
            forward(BOARD, named("critters"), 2, moment, 3)
            back(BOARD, named("critters"), 2, moment, 3)
            moves(BOARD, named("critters"), 2, moment, 2)
            comes_again(BOARD, named("critters"), 2, moment, 1000)
        read_board(board_shown(BOARD), 2)
        self.assertEqual(BOARD, ((0, 1, 1, 0), (1, 1, 0, 0)))
        block = (1, 0, 1, 1)
        number_of(block, 2)
        self.assertEqual(block, (1, 0, 1, 1))

    def test_what_was_handed_in_may_be_changed_later(self):
        for colours in SIZES:
            rule = scattered(colours)
            for name, answer in LISTS.items():
                given = list(rule)
                first = answer(given, colours)
                spoil(given)
                with self.subTest(name, colours=colours):
                    self.assertEqual(first, answer(list(rule), colours))

    def test_a_list_changed_between_two_calls_counts_as_it_is_now(self):
        rule, weights = list(range(16)), [0, 1]
        self.assertEqual(looked(rule, 2), 0)
        self.assertIs(keeps(rule, 2, weights), True)
        rule[0], rule[15] = 15, 0
        self.assertEqual(looked(rule, 2), 2)
        self.assertIs(keeps(rule, 2, weights), False)
        weights[1] = 0
        self.assertIs(keeps(rule, 2, weights), True)
        self.assertEqual(total(BOARD, weights), 0)

    def test_a_rule_changed_between_two_calls_counts_as_it_is_now(self):
        rule = list(range(16))
        self.assertEqual(forward(BOARD, rule, 2, 0, 1), BOARD)
        self.assertEqual(back(BOARD, rule, 2, 1, 1), BOARD)
        self.assertEqual(rings(rule, 2, 2, 2), [(1, 16)])
        self.assertEqual(comes_again(BOARD, rule, 2, 0, 1000), 2)
        rule[:] = named("turn")
        self.assertEqual(forward(BOARD, rule, 2, 0, 1), ((1, 0, 0, 1), (1, 1, 0, 0)))
        self.assertEqual(back(BOARD, rule, 2, 1, 1), ((1, 1, 0, 0), (0, 1, 1, 0)))
        self.assertEqual(rings(rule, 2, 2, 2), [(1, 4), (2, 6)])
        self.assertEqual(comes_again(BOARD, rule, 2, 0, 1000), 4)


class Told(unittest.TestCase):
    """Point 1: lists that are told are the asker's own, no two of them one."""

    def test_named_rules(self):
        for name in ("turn", "billiard", "critters"):
            first, second = named(name), named(name)
            right = list(first)
            with self.subTest(name):
                self.assertIsNot(first, second)
                spoil(first)
                self.assertEqual(second, right)
                self.assertEqual(named(name), right)

    def test_rules_made_of_rules(self):
        for colours in SIZES:
            for rule in (scattered(colours), list(range(colours ** 4))):
                for name, answer in LISTS.items():
                    given = list(rule)
                    first, second = answer(given, colours), answer(given, colours)
                    right = list(first)
                    with self.subTest(name, colours=colours):
                        self.assertIsNot(first, given)
                        self.assertIsNot(first, second)
                        spoil(first)
                        self.assertEqual(given, rule)
                        self.assertEqual(second, right)
                        self.assertEqual(answer(given, colours), right)
