"""Boards and rules written as texts, and read again."""

from blockturn.blocks import looked
from blockturn.boards import looked_board
from blockturn.errors import BadNote, NoBoard, NoRule, NotBack

FIRST_LINES = {"rule 2": 2, "rule 3": 3}


def board_shown(board):
    return "".join([row_shown(row) for row in board])


def row_shown(row):
    figures = "".join([str(colour) for colour in row])
    return f"{figures}\n"


def rule_shown(rule, colours):
    numbers = " ".join([str(number) for number in rule])
    return f"rule {colours}\n{numbers}\n"


def read_board(text, colours):
    board = tuple([tuple(numbers_read(line, colours)) for line in lines_of(text)])
    try:
        looked_board(board, colours)
    except NoBoard as e:
        raise BadNote("the rows are no board") from e
    return board


def read_rule(text):
    lines = lines_of(text)
    if len(lines) != 2:
        raise BadNote("a rule is written in two lines")
    if lines[0] not in FIRST_LINES:
        raise BadNote("the first line tells the colours of the rule")
    colours = FIRST_LINES[lines[0]]
    rule = numbers_read(lines[1].split(" "), colours ** 4)
    try:
        looked(rule, colours)
    except (NoRule, NotBack) as e:
        raise BadNote("the numbers are no rule that can be run back") from e
    return (colours, rule)


def lines_of(text):
    lines = text.split("\n")
    if lines[-1] != "":
        raise BadNote("each line has a line end")
    return lines[:-1]


# Looked up, not reckoned: so no sign, blank or needless nought about a number is let through.
def numbers_read(words, size):
    known = numbers_by_word(size)
    result = []
    for word in words:
        if word not in known:
            raise BadNote("a number is written by its figures alone, and is one of those that there are")
        result.append(known[word])
    return result


def numbers_by_word(size):
    result = {}
    for number in range(size):
        result[str(number)] = number
    return result
