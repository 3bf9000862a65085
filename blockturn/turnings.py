"""The eight turnings of rows of cells, for boards and for blocks alike."""


def turned_rows(rows, turning):
    result = rows
    if turning >= 4:
        result = mirrored(result)
    for quarter in range(turning % 4):
        result = turned_quarter(result)
    return result


def mirrored(rows):
    return tuple([tuple(reversed(row)) for row in rows])


def turned_quarter(rows):
    return tuple([column_upwards(rows, x) for x in range(len(rows[0]))])


# Turned clockwise, a column read from below is a row read from the left.
def column_upwards(rows, x):
    return tuple([row[x] for row in reversed(rows)])
