"""Boards looked at, moved, turned and weighed, and rules turned and weighed."""

from blockturn.blocks import block_of, number_of, turned_block
from blockturn.errors import NoBoard
from blockturn.turnings import turned_rows

LEAST_SIZE = 2
GREATEST_SIZE = 16


def looked_board(board, colours):
    height = len(board)
    if not is_size(height):
        raise NoBoard("a board has an even number of rows, from 2 to 16")
    width = len(board[0])
    if not is_size(width):
        raise NoBoard("a row has an even number of cells, from 2 to 16")
    for row in board:
        if len(row) != width:
            raise NoBoard("the rows of a board are of one length")
        if min(row) < 0 or max(row) >= colours:
            raise NoBoard("a cell has one of the colours")
    return (width, height)


def is_size(number):
    return LEAST_SIZE <= number <= GREATEST_SIZE and number % 2 == 0


def moved(board, a, b):
    height = len(board)
    return tuple([moved_row(board[(y - b) % height], a) for y in range(height)])


def moved_row(row, a):
    width = len(row)
    return tuple([row[(x - a) % width] for x in range(width)])


def turned_board(board, turning):
    return turned_rows(board, turning)


def turned_rule(rule, colours, turning):
    result = list(rule)
    for number, led in enumerate(rule):
        result[turned_number(number, colours, turning)] = turned_number(led, colours, turning)
    return result


def turned_number(number, colours, turning):
    return number_of(turned_block(block_of(number, colours), turning), colours)


def total(board, weights):
    return sum([weight_of(row, weights) for row in board])


def weight_of(cells, weights):
    return sum([weights[colour] for colour in cells])


def keeps(rule, colours, weights):
    for number, led in enumerate(rule):
        ahead = weight_of(block_of(number, colours), weights)
        behind = weight_of(block_of(led, colours), weights)
        if ahead != behind:
            return False
    return True
