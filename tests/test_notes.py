import unittest

from blockturn.blocks import looked, named
from blockturn.errors import BadNote
from blockturn.notes import board_shown, read_board, read_rule, rule_shown
from helpers import SIZES, cycled, made, scattered

TURN = "rule 2\n0 2 8 10 1 3 9 11 4 6 12 14 5 7 13 15\n"
STAYING = (
    "rule 3\n"
    "0 1 2 3 4 5 6 7 8 9 10 11 12 13 14 15 16 17 18 19 20 21 22 23 24 25 26 "
    "27 28 29 30 31 32 33 34 35 36 37 38 39 40 41 42 43 44 45 46 47 48 49 50 51 52 53 "
    "54 55 56 57 58 59 60 61 62 63 64 65 66 67 68 69 70 71 72 73 74 75 76 77 78 79 80\n")
# Every sign that a text may have, but for the figures.
SIGNS = [sign for sign in "\t\n" + "".join(map(chr, range(32, 127))) if sign not in "%0123456789"]


def spliced(text, start, end, put):
    return text[:start] + put + text[end:]


class BoardShown(unittest.TestCase):
    """Point 12: boards written."""

    def test_sign_by_sign(self):
        self.assertEqual(board_shown(((0, 1), (1, 1))), "01\n11\n")
        self.assertEqual(board_shown(((0, 1, 2, 0), (1, 1, 0, 2))), "0120\n1102\n")
        self.assertEqual(board_shown(((0, 1), (1, 1), (0, 0), (1, 0))), "01\n11\n00\n10\n")
        self.assertEqual(board_shown(((2,) * 16,) * 16), "2222222222222222\n" * 16)

    def test_read_by_hand(self):
        self.assertEqual(read_board("01\n11\n", 2), ((0, 1), (1, 1)))
        self.assertEqual(read_board("01\n11\n", 3), ((0, 1), (1, 1)))
        self.assertEqual(read_board("0120\n1102\n", 3), ((0, 1, 2, 0), (1, 1, 0, 2)))
        self.assertEqual(read_board("1" * 16 + "\n" + "0" * 16 + "\n", 2), ((1,) * 16, (0,) * 16))

    def test_read_again(self):
        for colours in SIZES:
            for width in range(2, 17, 2):
                for height in range(2, 17, 2):
                    board = made(width, height, colours)
                    with self.subTest(colours=colours, width=width, height=height):
                        self.assertEqual(read_board(board_shown(board), colours), board)

    def test_a_board_read_is_of_tuples(self):
        board = read_board("0120\n1102\n", 3)
        self.assertIs(type(board), tuple)
        self.assertEqual([type(row) for row in board], [tuple, tuple])
        self.assertEqual({type(colour) for row in board for colour in row}, {int})


class BoardRefused(unittest.TestCase):
    """Point 12: every other text is refused with BadNote."""

    def refused(self, text, colours=2):
        with self.subTest(text=text, colours=colours):
            with self.assertRaises(BadNote) as caught:
                read_board(text, colours)
            self.assertIs(type(caught.exception), BadNote)

    def test_no_text_and_lone_line_ends(self):
        for ends in range(19):
            for colours in SIZES:
                self.refused("\n" * ends, colours)

    def test_signs_that_are_no_colours(self):
        for colours in SIZES:
            text = board_shown(made(4, 4, colours))
            for place in range(len(text)):
                for sign in SIGNS + [str(figure) for figure in range(colours, 10)]:
                    if sign != text[place]:
                        self.refused(spliced(text, place, place + 1, sign), colours)

    def test_the_figure_that_is_the_number_of_the_colours(self):
        self.refused("01\n12\n", 2)
        self.refused("20\n11\n", 2)
        self.refused("01\n13\n", 3)
        self.refused("30\n11\n", 3)

    def test_a_sign_more(self):
        for colours in SIZES:
            text = board_shown(made(4, 4, colours))
            for place in range(len(text) + 1):
                for sign in SIGNS + ["0", "1", "2", "3", "9", "00"]:
                    self.refused(spliced(text, place, place, sign), colours)

    def test_a_sign_less(self):
        for colours in SIZES:
            text = board_shown(made(4, 4, colours))
            for place in range(len(text)):
                self.refused(spliced(text, place, place + 1, ""), colours)

    def test_rows_longer_or_shorter(self):
        for text in (
            "01\n011\n", "01\n0110\n", "01\n1\n", "0110\n01\n", "011\n01\n", "01\n\n", "\n01\n",
            "01\n01\n01\n1\n",
        ):
            self.refused(text)

    def test_a_row_more_or_less(self):
        for height in range(0, 21):
            if height % 2 == 1 or not 2 <= height <= 16:
                self.refused("0110\n" * height)

    def test_widths_that_no_board_has(self):
        for width in (0, 1, 3, 5, 15, 17, 18, 20, 32):
            self.refused(("1" * width + "\n") * 2)
            self.refused(("1" * width + "\n") * 4, 3)

    def test_line_ends(self):
        for text in ("01\n11", "0111\n", "01\n11\n\n", "\n01\n11\n", "01\n\n11\n", "0111", "01\n\n11", "01 11\n"):
            self.refused(text)

    def test_blanks_and_tabs(self):
        for text in (
            "01 \n11\n", " 01\n11\n", "0 1\n1 1\n", "01\n11\n ", "01\n11 \n", "01\t\n11\n", "\t01\n11\n",
            "01\t11\n",
        ):
            self.refused(text)

    def test_signs_ahead_of_figures(self):
        for text in ("-1\n11\n", "+1\n11\n", "-0-1\n-1-1\n", "0-1\n011\n", "_1\n11\n", "1_\n11\n"):
            self.refused(text)

    def test_a_rule_is_no_board(self):
        self.refused(TURN)
        self.refused(STAYING, 3)

    def test_the_longest_texts(self):
        for text in ("0" * 600, "\n" * 600, "01\n" * 200, "0" * 599 + "\n", "~" * 600, " " * 600):
            self.refused(text)


class RuleShown(unittest.TestCase):
    """Point 12: rules written."""

    def test_sign_by_sign(self):
        self.assertEqual(rule_shown(named("turn"), 2), TURN)
        self.assertEqual(rule_shown(list(range(81)), 3), STAYING)
        self.assertEqual(
            rule_shown(named("critters"), 2), "rule 2\n15 14 13 3 11 5 6 1 7 9 10 2 12 4 8 0\n")

    def test_read_by_hand(self):
        self.assertEqual(read_rule(TURN), (2, named("turn")))
        self.assertEqual(read_rule(STAYING), (3, list(range(81))))

    def test_read_again(self):
        for colours, size in SIZES.items():
            for rule in (scattered(colours), cycled(size, (0, size - 1)), list(reversed(range(size)))):
                with self.subTest(colours=colours, rule=rule):
                    self.assertEqual(read_rule(rule_shown(rule, colours)), (colours, rule))

    def test_kinds(self):
        for text in (TURN, STAYING):
            answer = read_rule(text)
            self.assertIs(type(answer), tuple)
            self.assertEqual([type(part) for part in answer], [int, list])
            self.assertEqual({type(number) for number in answer[1]}, {int})
            looked(answer[1], answer[0])


class RuleRefused(unittest.TestCase):
    """Point 12: every other text is refused with BadNote."""

    def refused(self, text):
        with self.subTest(text=text):
            with self.assertRaises(BadNote) as caught:
                read_rule(text)
            self.assertIs(type(caught.exception), BadNote)

    def put(self, place, word, size=16):
        """The text of the rule that leads nothing elsewhere, with a word at a place."""
        words = [str(number) for number in range(size)]
        words[place] = word
        return f"rule {2 if size == 16 else 3}\n{' '.join(words)}\n"

    def test_no_text_and_lone_line_ends(self):
        for ends in range(5):
            self.refused("\n" * ends)

    def test_a_bad_first_line(self):
        numbers = TURN[len("rule 2"):]
        for line in (
            "", "rule", "rule ", "2", "rule2", "rule  2", "rule\t2", " rule 2", "rule 2 ", "\trule 2", "rule 2\t",
            "Rule 2", "RULE 2", "rules 2", "rul 2", "rule 0", "rule 1", "rule 4", "rule 02", "rule +2", "rule -2",
            "rule 22", "rule 2.0", "rule two", "rule 2 3", "board 2", "rule 2\n", "\nrule 2", "rule\n2", "rule:2",
        ):
            self.refused(line + numbers)

    def test_the_other_colours_first_line(self):
        self.refused(TURN.replace("rule 2", "rule 3"))
        self.refused(STAYING.replace("rule 3", "rule 2"))

    def test_line_ends(self):
        numbers = TURN[len("rule 2\n"):]
        for text in (
            TURN[:-1], TURN + "\n", "\n" + TURN,
            TURN.replace("rule 2\n", "rule 2"), TURN.replace("rule 2\n", "rule 2 "),
            TURN.replace("rule 2\n", "rule 2\n\n"), "rule 2\n", "rule 2", "rule 2\n\n", numbers, TURN + TURN,
            TURN.replace(" 1 ", "\n1 "), TURN.replace(" 1 ", " 1\n"), TURN.replace(" ", "\n"), TURN + "rule 2\n",
        ):
            self.refused(text)

    def test_blanks_and_tabs(self):
        for text in (
            TURN.replace(" 1 ", "  1 "), TURN.replace("\n0", "\n 0"), TURN.replace("15\n", "15 \n"), TURN + " ",
            " " + TURN, TURN.replace(" 1 ", "\t1 "), TURN.replace("15\n", "15\t\n"), TURN.replace("\n0", "\n\t0"),
            TURN.replace(" 1 ", ",1 "), TURN.replace(" 1 ", "1 "), "rule 2\n" + " " * 15 + "\n", "rule 2\n \n",
        ):
            self.refused(text)

    def test_needless_noughts_and_signs_ahead(self):
        for size in (16, 81):
            for place in (0, 1, 9, 10, size - 1):
                for ahead in ("0", "00", "+", "-", "_", "0x", "0b", "'", "."):
                    self.refused(self.put(place, ahead + str(place), size))
                for behind in (".", ".0", "_", "e0", "0", ",", "L", "/1"):
                    self.refused(self.put(place, str(place) + behind, size))
        self.refused(self.put(10, "1_0"))
        self.refused(self.put(10, "1 0"))

    def test_what_is_no_number(self):
        for word in ("", "a", "x1", "one", "-", "+", "--1", "~", "A", "True", "None", "{0}", "\\n"):
            for place in (0, 7, 15):
                self.refused(self.put(place, word))

    def test_a_number_that_is_no_blocks(self):
        for size in (16, 81):
            for place in (0, 5, size - 1):
                for word in (str(size), str(size + 1), "-1", str(-size), "99", "100", "9" * 300):
                    self.refused(self.put(place, word, size))

    def test_told_twice_or_left_out(self):
        for size in (16, 81):
            for place, word in ((0, "1"), (1, "0"), (size - 1, "0"), (0, str(size - 1)), (7, "8")):
                self.refused(self.put(place, word, size))
        self.refused("rule 2\n" + " ".join(["0"] * 16) + "\n")

    def test_another_number_of_numbers(self):
        for colours, size in SIZES.items():
            for many in (1, 2, size - 1, size + 1):
                self.refused(f"rule {colours}\n{' '.join(str(number) for number in range(many))}\n")
            numbers = [str(number) for number in range(size)]
            for place in (0, 5, size - 1):
                self.refused(f"rule {colours}\n{' '.join(numbers[:place] + numbers[place + 1:])}\n")
                self.refused(f"rule {colours}\n{' '.join(numbers[:place + 1] + numbers[place:])}\n")

    def test_one_sign_put_for_another(self):
        for place in range(len(TURN)):
            for sign in SIGNS:
                if sign != TURN[place]:
                    self.refused(spliced(TURN, place, place + 1, sign))

    def test_a_sign_more(self):
        for place in range(len(TURN) + 1):
            for sign in SIGNS + ["0"]:
                self.refused(spliced(TURN, place, place, sign))

    def test_a_sign_less(self):
        for text in (TURN, STAYING):
            for place in range(len(text)):
                self.refused(spliced(text, place, place + 1, ""))

    def test_a_board_is_no_rule(self):
        self.refused("01\n11\n")
        self.refused("0120\n1102\n")

    def test_the_longest_texts(self):
        for text in ("0" * 600, "\n" * 600, "rule 2\n" + "0" * 592 + "\n", "rule 2\n" + "0 " * 296 + "\n", "~" * 600):
            self.refused(text)
