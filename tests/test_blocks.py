import itertools
import unittest

from blockturn.blocks import block_of, looked, named, number_of, rule_back
from blockturn.errors import NoRule, NotBack
from helpers import HUGE, SIZES, cycled, scattered


class Numbers(unittest.TestCase):
    """Point 2: blocks and their numbers."""

    def test_every_block_there_and_back(self):
        for colours in SIZES:
            blocks = list(itertools.product(range(colours), repeat=4))
            self.assertEqual(len(blocks), SIZES[colours])
            for number, block in enumerate(blocks):
                with self.subTest(colours=colours, block=block):
                    self.assertEqual(number_of(block, colours), number)
                    self.assertEqual(block_of(number, colours), block)

    def test_a_block_is_a_tuple(self):
        self.assertIs(type(block_of(0, 2)), tuple)
        self.assertIs(type(block_of(80, 3)), tuple)

    def test_written_out(self):
        self.assertEqual(number_of((1, 0, 1, 1), 2), 11)
        self.assertEqual(block_of(11, 2), (1, 0, 1, 1))
        self.assertEqual(number_of((1, 0, 1, 1), 3), 31)
        self.assertEqual(number_of((2, 1, 0, 2), 3), 65)
        self.assertEqual(block_of(65, 3), (2, 1, 0, 2))


class Looked(unittest.TestCase):
    """Point 2: which rules are let."""

    def test_how_many_are_led_elsewhere(self):
        self.assertEqual(looked(list(range(16)), 2), 0)
        self.assertEqual(looked(list(range(81)), 3), 0)
        self.assertEqual(looked(cycled(16, (0, 15)), 2), 2)
        self.assertEqual(looked(cycled(81, (0, 80)), 3), 2)
        self.assertEqual(looked([1, 2, 0] + list(range(3, 16)), 2), 3)
        self.assertEqual(looked(list(reversed(range(16))), 2), 16)
        self.assertEqual(looked(list(reversed(range(81))), 3), 80)
        self.assertEqual(looked(named("turn"), 2), 14)
        self.assertEqual(looked(named("billiard"), 2), 6)
        self.assertEqual(looked(named("critters"), 2), 10)

    def test_another_length(self):
        for colours, size in SIZES.items():
            for length in (0, 1, size - 1, size + 1, 2 * size):
                with self.subTest(colours=colours, length=length), self.assertRaises(NoRule):
                    looked(list(range(length)), colours)

    def test_a_rule_of_the_other_colours(self):
        with self.assertRaises(NoRule):
            looked(list(range(81)), 2)
        with self.assertRaises(NoRule):
            looked(list(range(16)), 3)
        with self.assertRaises(NoRule):
            looked(named("turn"), 3)

    def test_a_number_that_is_no_blocks(self):
        for colours, size in SIZES.items():
            for wrong in (-1, -size, size, size + 1, HUGE, -HUGE):
                for place in (0, size // 2, size - 1):
                    rule = list(range(size))
                    rule[place] = wrong
                    with self.subTest(colours=colours, place=place), self.assertRaises(NoRule):
                        looked(rule, colours)

    def test_a_number_that_stands_there_twice(self):
        for colours, size in SIZES.items():
            for place, number in ((0, 1), (1, 0), (0, size - 1), (size - 1, 0), (size - 1, size - 2)):
                rule = list(range(size))
                rule[place] = number
                with self.subTest(colours=colours, place=place, number=number), self.assertRaises(NotBack):
                    looked(rule, colours)
            with self.subTest(colours=colours), self.assertRaises(NotBack):
                looked([0] * size, colours)

    def test_no_rule_comes_ahead_of_not_back(self):
        for colours, size in SIZES.items():
            for rule in (
                [0] * (size - 1),
                [0] * (size + 1),
                list(range(size)) + [0],
                [0] * (size - 1) + [size],
                [0] * (size - 1) + [-1],
                [size] + [0] * (size - 1),
                [size] * size,
                [-1] * size,
            ):
                with self.subTest(colours=colours, rule=rule), self.assertRaises(NoRule):
                    looked(rule, colours)


class RuleBack(unittest.TestCase):
    """Point 4: the rule back."""

    def test_written_out(self):
        rule = [3, 0, 1, 2] + list(range(4, 16))
        self.assertEqual(rule_back(rule), [1, 2, 3, 0] + list(range(4, 16)))

    def test_each_number_is_led_back(self):
        for colours, size in SIZES.items():
            for rule in (list(range(size)), cycled(size, (0, size - 1)), scattered(colours)):
                back = rule_back(rule)
                self.assertIs(type(back), list)
                self.assertEqual(len(back), size)
                for number in range(size):
                    with self.subTest(colours=colours, number=number):
                        self.assertEqual(back[rule[number]], number)
                        self.assertEqual(rule[back[number]], number)

    def test_the_rule_back_is_another_one(self):
        for colours in SIZES:
            rule = scattered(colours)
            self.assertNotEqual(rule_back(rule), rule)
            self.assertEqual(rule_back(rule_back(rule)), rule)

    def test_turn_goes_back_the_other_way(self):
        back = rule_back(named("turn"))
        self.assertEqual(block_of(back[number_of((1, 0, 0, 0), 2)], 2), (0, 0, 1, 0))
        self.assertEqual(block_of(back[number_of((0, 1, 1, 1), 2)], 2), (1, 1, 0, 1))


# What each block becomes under "turn", "billiard" and "critters".
NAMED = {
    (0, 0, 0, 0): ((0, 0, 0, 0), (0, 0, 0, 0), (1, 1, 1, 1)),
    (0, 0, 0, 1): ((0, 0, 1, 0), (1, 0, 0, 0), (1, 1, 1, 0)),
    (0, 0, 1, 0): ((1, 0, 0, 0), (0, 1, 0, 0), (1, 1, 0, 1)),
    (0, 0, 1, 1): ((1, 0, 1, 0), (0, 0, 1, 1), (0, 0, 1, 1)),
    (0, 1, 0, 0): ((0, 0, 0, 1), (0, 0, 1, 0), (1, 0, 1, 1)),
    (0, 1, 0, 1): ((0, 0, 1, 1), (0, 1, 0, 1), (0, 1, 0, 1)),
    (0, 1, 1, 0): ((1, 0, 0, 1), (1, 0, 0, 1), (0, 1, 1, 0)),
    (0, 1, 1, 1): ((1, 0, 1, 1), (0, 1, 1, 1), (0, 0, 0, 1)),
    (1, 0, 0, 0): ((0, 1, 0, 0), (0, 0, 0, 1), (0, 1, 1, 1)),
    (1, 0, 0, 1): ((0, 1, 1, 0), (0, 1, 1, 0), (1, 0, 0, 1)),
    (1, 0, 1, 0): ((1, 1, 0, 0), (1, 0, 1, 0), (1, 0, 1, 0)),
    (1, 0, 1, 1): ((1, 1, 1, 0), (1, 0, 1, 1), (0, 0, 1, 0)),
    (1, 1, 0, 0): ((0, 1, 0, 1), (1, 1, 0, 0), (1, 1, 0, 0)),
    (1, 1, 0, 1): ((0, 1, 1, 1), (1, 1, 0, 1), (0, 1, 0, 0)),
    (1, 1, 1, 0): ((1, 1, 0, 1), (1, 1, 1, 0), (1, 0, 0, 0)),
    (1, 1, 1, 1): ((1, 1, 1, 1), (1, 1, 1, 1), (0, 0, 0, 0)),
}


class Named(unittest.TestCase):
    """Point 5: the named rules."""

    def test_block_by_block(self):
        self.assertEqual(len(NAMED), 16)
        for place, name in enumerate(("turn", "billiard", "critters")):
            rule = named(name)
            self.assertIs(type(rule), list)
            self.assertEqual(len(rule), 16)
            for block, become in NAMED.items():
                with self.subTest(name, block=block):
                    self.assertEqual(block_of(rule[number_of(block, 2)], 2), become[place])

    def test_as_numbers(self):
        self.assertEqual(named("turn"), [0, 2, 8, 10, 1, 3, 9, 11, 4, 6, 12, 14, 5, 7, 13, 15])
        self.assertEqual(named("billiard"), [0, 8, 4, 3, 2, 5, 9, 7, 1, 6, 10, 11, 12, 13, 14, 15])
        self.assertEqual(named("critters"), [15, 14, 13, 3, 11, 5, 6, 1, 7, 9, 10, 2, 12, 4, 8, 0])
