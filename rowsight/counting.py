"""How many whole rows show so many at both ends, and which of them has which number."""

from rowsight.errors import NoSuch
from rowsight.rows import check_whole_row, seen_along, sight


def choose(many, taken):
    ways = 1
    for step in range(taken):
        # This order keeps each division without a rest.
        ways = ways * (many - step) // (step + 1)
    return ways


def with_one_lesser(ways, hidden):
    # ways[k] orders show k at one end. One lesser height is seen there only if it is put at that very end;
    # put at one of the other places, it is hidden.
    return [hidden * same + one_less for same, one_less in zip(ways + [0], [0] + ways)]


def orders_by_seen(many):
    ways = [1]
    for placed in range(many):
        ways = with_one_lesser(ways, placed)
    return ways


def orders_by_back(many, first):
    # Who is seen ahead of the greatest or behind it begins a ring of the others, as told from his own end:
    # so the others lie in rings, and of these first - 1 are chosen to stand ahead.
    by_rings = orders_by_seen(many - 1)
    ways = [0]
    for rings in range(first - 1, many):
        ways.append(by_rings[rings] * choose(rings, first - 1))
    return ways


def many_rows(many, first, last):
    if first < 1 or last < 1 or first + last > many + 1:
        return 0
    return orders_by_back(many, first)[last]


def many_ends(taller, lesser, first, last):
    # In how many orders those who are left show so many, where one who stands already hides the lesser ones
    # from the front, and the taller ones not.
    if taller == 0:
        ways = [1 if first == 0 else 0]
    elif first < 1:
        ways = [0]
    else:
        ways = orders_by_back(taller, first)
    for placed in range(taller, taller + lesser):
        ways = with_one_lesser(ways, placed)
    return ways[last] if 0 <= last < len(ways) else 0


def many_begun(start, left, shown):
    # All who are left stand behind the start, so the greatest of them alone settles who of the start
    # is seen from the back.
    greatest_left = max(left, default=0)
    from_front = seen_along(start, list(range(len(start))))
    from_back = seen_along(start, list(range(len(start) - 1, -1, -1)))
    over_left = [place for place in from_back if start[place] > greatest_left]
    taller = len([height for height in left if height > max(start)])
    return many_ends(taller, len(left) - taller, shown[0] - len(from_front), shown[1] - len(over_left))


def without(heights, height):
    return [other for other in heights if other != height]


def row_begun(start, left, shown, number):
    # The heights that are left come here in rising order, and so do the rows that begin with each of them.
    if len(left) == 0:
        return start
    for height in left:
        longer = start + [height]
        rest = without(left, height)
        many = many_begun(longer, rest, shown)
        if number < many:
            return row_begun(longer, rest, shown, number)
        number = number - many
    raise NoSuch("no row has a number so great")


def row_at(many, first, last, number):
    if number < 0:
        raise NoSuch("no row has a number below nought")
    if many < 1:
        raise NoSuch("no row is without a height")
    return row_begun([], list(range(1, many + 1)), (first, last), number)


def number_of(row):
    check_whole_row(row)
    shown = sight(row)
    number = 0
    for place, height in enumerate(row):
        left = row[place:]
        for lesser in [other for other in left if other < height]:
            number = number + many_begun(row[:place] + [lesser], without(left, lesser), shown)
    return number


def next_row(row):
    check_whole_row(row)
    shown = sight(row)
    # The next row is like this one for as many places as can be, so a change is tried at the last place first.
    for place in range(len(row) - 1, -1, -1):
        left = sorted(row[place:])
        for height in [other for other in left if other > row[place]]:
            start = row[:place] + [height]
            rest = without(left, height)
            if many_begun(start, rest, shown) > 0:
                return row_begun(start, rest, shown, 0)
    return None
