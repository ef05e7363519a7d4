"""Rows of unlike heights, and the places seen from either end."""

from rowsight.errors import BadRow

MOST_HEIGHTS = 30


def is_whole_number(value):
    # True and False count as int in Python, but they are no heights.
    return isinstance(value, int) and not isinstance(value, bool)


def check_row(row):
    # No height stands in the words of a refusal: Python won't write out a number of some thousand figures.
    if not isinstance(row, list):
        raise BadRow("a row is a list")
    if len(row) < 1 or len(row) > MOST_HEIGHTS:
        raise BadRow(f"a row has 1 to {MOST_HEIGHTS} heights")
    if not all([is_whole_number(height) for height in row]):
        raise BadRow("the heights of a row are whole numbers")
    if len(set(row)) < len(row):
        raise BadRow("the heights of a row are unlike")


def has_each_once(heights, many):
    # What is no number is told first: it can't be put in order with numbers.
    return all([is_whole_number(height) for height in heights]) and sorted(heights) == list(range(1, many + 1))


def check_whole_row(row):
    check_row(row)
    if not has_each_once(row, len(row)):
        raise BadRow("a whole row has just the heights from 1 on")


def seen_along(row, places):
    seen = []
    for place in places:
        # The one seen last is the greatest so far, so it alone can hide the next.
        if not seen or row[place] > row[seen[-1]]:
            seen.append(place)
    return seen


def front(row):
    check_row(row)
    return seen_along(row, list(range(len(row))))


def back(row):
    check_row(row)
    return sorted(seen_along(row, list(range(len(row) - 1, -1, -1))))


def sight(row):
    return (len(front(row)), len(back(row)))
