"""Boards run forward and back, step by step."""

from blockturn.blocks import block_of, number_of, rule_back
from blockturn.boards import moved


def forward(board, rule, colours, moment, steps):
    outcomes = outcomes_of(rule, colours)
    now = board
    for passed in range(steps):
        now = stepped(now, outcomes, colours, moment + passed)
    return now


def back(board, rule, colours, moment, steps):
    outcomes = outcomes_of(rule_back(rule), colours)
    now = board
    for passed in range(steps):
        now = stepped(now, outcomes, colours, moment - 1 - passed)
    return now


# Made once for many steps: each step asks for the outcome of every block of the board.
def outcomes_of(rule, colours):
    return [block_of(led, colours) for led in rule]


# The blocks of an odd moment are those of an even one on the board moved by one place each way.
def stepped(board, outcomes, colours, moment):
    shift = moment % 2
    start = moved(board, -shift, -shift)
    rows = []
    for y in range(0, len(start), 2):
        rows.extend(stepped_rows(start[y], start[y + 1], outcomes, colours))
    return moved(tuple(rows), shift, shift)


def stepped_rows(upper, lower, outcomes, colours):
    new_upper = []
    new_lower = []
    for x in range(0, len(upper), 2):
        block = upper[x:x + 2] + lower[x:x + 2]
        outcome = outcomes[number_of(block, colours)]
        new_upper.extend(outcome[:2])
        new_lower.extend(outcome[2:])
    return [tuple(new_upper), tuple(new_lower)]
