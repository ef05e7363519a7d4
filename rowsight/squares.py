"""Squares of heights, and the wishes for how many are seen of their rows and columns."""

from rowsight.errors import BadSquare
from rowsight.rows import has_each_once, is_whole_number, sight

MOST_ROWS = 4
SIDES = 4


def check_wishes(wishes):
    if not isinstance(wishes, (list, tuple)) or len(wishes) != SIDES:
        raise BadSquare(f"wishes are a tuple or list of {SIDES} lists")
    if not all([isinstance(side, list) for side in wishes]):
        raise BadSquare(f"wishes are a tuple or list of {SIDES} lists")
    many = len(wishes[0])
    if many < 1 or many > MOST_ROWS:
        raise BadSquare(f"wishes are for a square of 1 to {MOST_ROWS} rows")
    for side in wishes:
        if len(side) != many:
            raise BadSquare("the lists of wishes are of one length")
        if not all([is_whole_number(wish) and 0 <= wish <= many for wish in side]):
            raise BadSquare(f"a wish is a whole number from 0 to {many}")


def column(rows, place):
    return [row[place] for row in rows]


def is_square(square, many):
    if not isinstance(square, list) or len(square) != many:
        return False
    if not all([isinstance(row, list) and has_each_once(row, many) for row in square]):
        return False
    return all([has_each_once(column(square, place), many) for place in range(many)])


def line_keeps(line, from_front, from_back):
    seen = sight(line)
    return from_front in (0, seen[0]) and from_back in (0, seen[1])


def columns_keep(square, wishes):
    for place in range(len(square)):
        if not line_keeps(column(square, place), wishes[2][place], wishes[3][place]):
            return False
    return True


def rows_keep(square, wishes):
    for place, row in enumerate(square):
        if not line_keeps(row, wishes[0][place], wishes[1][place]):
            return False
    return True


def keeps(square, wishes):
    check_wishes(wishes)
    return is_square(square, len(wishes[0])) and rows_keep(square, wishes) and columns_keep(square, wishes)


def orders(heights):
    if len(heights) == 0:
        return [[]]
    told = []
    for height in heights:
        rest = [other for other in heights if other != height]
        told.extend([[height] + order for order in orders(rest)])
    return told


def unlike_in_columns(row, other):
    return all([height != beside for height, beside in zip(row, other)])


def fits(start, row):
    return all([unlike_in_columns(row, above) for above in start])


def one_row_longer(starts, rows):
    longer = []
    for start in starts:
        # Starts and rows both come in order, so what is made of them does too.
        longer.extend([start + [row] for row in rows if fits(start, row)])
    return longer


def own_rows(square):
    return [list(row) for row in square]


def squares(wishes):
    check_wishes(wishes)
    many = len(wishes[0])
    rows = orders(list(range(1, many + 1)))
    starts = [[]]
    for place in range(many):
        fitting = [row for row in rows if line_keeps(row, wishes[0][place], wishes[1][place])]
        starts = one_row_longer(starts, fitting)
    # Until here squares share their rows, and the asker's squares may not.
    return [own_rows(square) for square in starts if columns_keep(square, wishes)]


def first_square(wishes):
    found = squares(wishes)
    return found[0] if len(found) > 0 else None
