"""Boards, rules and a step for the tests to lean on, made apart from the package."""

SIZES = {2: 16, 3: 81}
# Longer than Python writes out: an error must not try to.
HUGE = 10 ** 5000
# Weights that no float can tell from their neighbours.
MANY = 10 ** 60


def made(width, height, colours):
    """A board whose rows and columns are not alike."""
    return tuple(tuple((x * x + 3 * y * y + x * y // 2) % colours for x in range(width)) for y in range(height))


def with_cell(board, x, y, colour):
    rows = [list(row) for row in board]
    rows[y][x] = colour
    return tuple(tuple(row) for row in rows)


def with_ones(width, height, *places):
    """A board of noughts but for the places (x, y) that are told."""
    return tuple(tuple(int((x, y) in places) for x in range(width)) for y in range(height))


def scattered(colours):
    """A rule that is not its own rule back, and looks alike from no two sides."""
    size = SIZES[colours]
    return [(5 * number + 7) % size for number in range(size)]


def cycled(size, numbers):
    """The rule that leads each of the numbers to the one behind it, and no other elsewhere."""
    rule = list(range(size))
    for place, number in enumerate(numbers):
        rule[number] = numbers[(place + 1) % len(numbers)]
    return rule


def number_at(board, x, y, colours):
    width, height = len(board[0]), len(board)
    cells = [board[(y + down) % height][(x + right) % width] for down in (0, 1) for right in (0, 1)]
    return int("".join(str(colour) for colour in cells), colours)


def figures(number, colours):
    result = []
    for _ in range(4):
        number, colour = divmod(number, colours)
        result.insert(0, colour)
    return result


def stepped(board, rule, colours, moment):
    width, height = len(board[0]), len(board)
    result = [list(row) for row in board]
    first = moment % 2
    for y in range(first, height, 2):
        for x in range(first, width, 2):
            upper_left, upper_right, lower_left, lower_right = figures(
                rule[number_at(board, x, y, colours)], colours)
            beside, beneath = (x + 1) % width, (y + 1) % height
            result[y][x], result[y][beside] = upper_left, upper_right
            result[beneath][x], result[beneath][beside] = lower_left, lower_right
    return tuple(tuple(row) for row in result)
