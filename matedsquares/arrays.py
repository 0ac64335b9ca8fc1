"""Arrays: rows of signs of which each two columns show each pair once."""

from matedsquares.errors import InvalidQuestion
from matedsquares.judged import kept_family
from matedsquares.squares import GREATEST_LISTED, is_integer

FEWEST_COLUMNS = 2


def array_of(squares):
    """Return for each cell its row, its column and its sign in each square of a family."""
    kept = kept_family(squares)
    numbers = range(len(kept[0]))
    return [(r, c, *[rows[r][c] for rows in kept]) for r in numbers for c in numbers]


def array_fault(order, rows):
    """Return the first two columns that show a pair twice, and the two rows; or None."""
    need_rows(order, rows)
    many = len(rows[0])
    for one in range(many):
        for other in range(one + 1, many):
            repeat = first_repeat_of([(row[one], row[other]) for row in rows])
            if repeat is not None:
                return (one, other, *repeat)
    return None


def squares_of(order, rows):
    """Return the list of the squares of an array."""
    if array_fault(order, rows) is not None:
        raise InvalidQuestion("no array")
    return squares_told(order, rows)


def squares_told(order, rows):
    """Return the squares of what surely is an array."""
    found = []
    for column in range(FEWEST_COLUMNS, len(rows[0])):
        signs = [[0] * order for _ in range(order)]
        for row in rows:
            signs[row[0]][row[1]] = row[column]
        found.append(tuple([tuple(line) for line in signs]))
    return found


def need_order(order):
    if not is_integer(order) or not 1 <= order <= GREATEST_LISTED:
        raise InvalidQuestion("no order of listed squares")


def need_rows(order, rows):
    """Need as many rows of signs as an array has, of one length."""
    need_order(order)
    if not isinstance(rows, (list, tuple)) or len(rows) != order * order:
        raise InvalidQuestion("another number of rows than an array has")
    for row in rows:
        if not isinstance(row, (list, tuple)) or len(row) < FEWEST_COLUMNS or len(row) != len(rows[0]):
            raise InvalidQuestion("a row that is too short, or of another length")
        need_signs(order, row)


def need_signs(order, signs):
    for own in signs:
        if not is_integer(own) or not 0 <= own < order:
            raise InvalidQuestion("no sign of the order")


def first_repeat_of(pairs):
    """Return the place of the first pair that stood at an earlier place, behind that, or None."""
    places = {}
    for place, pair in enumerate(pairs):
        if pair in places:
            return (places[pair], place)
        places[pair] = place
    return None
