"""When boards come again, as they were or moved, and the rings on which they lie."""

from blockturn.boards import moved
from blockturn.errors import TooLong, TooMany
from blockturn.running import forward

MOST_BOARDS = 300


def comes_again(board, rule, colours, moment, most):
    now = board
    for steps in range(2, most + 1, 2):
        # Behind two steps the moment is even or odd as it was, and nothing else of it counts.
        now = forward(now, rule, colours, moment, 2)
        if now == board:
            return steps
    raise TooLong("the board does not come again within so many steps")


def moves(board, rule, colours, moment, steps):
    behind = forward(board, rule, colours, moment, steps)
    result = []
    for a in range(0, len(board[0]), 2):
        result.extend([(a, b) for b in range(0, len(board), 2) if moved(board, a, b) == behind])
    return result


def rings(rule, colours, width, height):
    refuse_too_many(colours, width * height)
    met = {}
    counts = {}
    for board in all_boards(colours, width, height):
        if board not in met:
            ring = ring_of(board, rule, colours)
            for member in ring:
                met[member] = True
            counts[len(ring)] = counts.get(len(ring), 0) + 1
    return sorted(counts.items())


# Told ahead of making any board, and no further counted than is needed.
def refuse_too_many(colours, cells):
    many = 1
    for cell in range(cells):
        many = many * colours
        if many > MOST_BOARDS:
            raise TooMany("there are too many boards of this size")


def ring_of(board, rule, colours):
    result = [board]
    now = forward(board, rule, colours, 0, 2)
    while now != board:
        result.append(now)
        now = forward(now, rule, colours, 0, 2)
    return result


def all_boards(colours, width, height):
    rows = all_tuples(list(range(colours)), width)
    return all_tuples(rows, height)


def all_tuples(values, length):
    result = [()]
    for place in range(length):
        longer = []
        for start in result:
            longer.extend([start + (value,) for value in values])
        result = longer
    return result
