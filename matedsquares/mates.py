"""Mates of listed squares: squares that show each pair of signs with them once."""

from matedsquares.errors import InvalidQuestion, InvalidSquare, TooMany
from matedsquares.transversals import is_transversal_of, kept_rows, next_fitting


def first_repeat(one, other):
    """Return the first cell whose pair of signs stood at an earlier cell, behind that, or None."""
    one = kept_rows(one)
    other = kept_rows(other)
    if len(one) != len(other):
        raise InvalidSquare("squares of unlike orders")
    cells = {}
    for r in range(len(one)):
        for c in range(len(one)):
            pair = (one[r][c], other[r][c])
            if pair in cells:
                return (*cells[pair], r, c)
            cells[pair] = (r, c)
    return None


def are_mates(one, other):
    """Tell whether no two cells have the same pair of signs."""
    return first_repeat(one, other) is None


def mate(rows, *, limit=200000):
    """Return the mate by the first transversals that have no cell in common, or None."""
    kept = kept_rows(rows)
    size = len(kept)
    tried = 0
    # The columns of the cells of all transversals, one behind the other, row by row.
    chosen = []
    column = 0
    while len(chosen) < size * size:
        column = next_cell(kept, chosen, column)
        if column < size:
            tried += 1
            if tried > limit:
                raise TooMany(limit)
            chosen.append(column)
            column = 0
        elif chosen:
            column = chosen.pop() + 1
        else:
            return None
    return numbered([chosen[at * size:(at + 1) * size] for at in range(size)])


def mate_by(rows, parts):
    """Return the square whose sign at a cell is the number of the transversal that has it."""
    kept = kept_rows(rows)
    size = len(kept)
    if len(parts) != size:
        raise InvalidQuestion("another number of transversals than the order")
    for columns in parts:
        if not is_transversal_of(kept, columns):
            raise InvalidQuestion("no transversal of the square")
    for r in range(size):
        if len({columns[r] for columns in parts}) < size:
            raise InvalidQuestion("two transversals with a cell in common")
    return numbered(parts)


def parts_of(rows, other):
    """Return the list of the transversals at which a mate has the signs 0, 1 and so on."""
    if not are_mates(rows, other):
        raise InvalidQuestion("squares that are no mates")
    return [tuple([row.index(sign) for row in other]) for sign in range(len(other))]


def next_cell(kept, chosen, start):
    """Return the first column from a start on that fits in the next row, or the order if none does.

    The row is one of the transversal that is not yet whole, and which begins in the first row at
    the column of its number."""
    size = len(kept)
    number, r = divmod(len(chosen), size)
    if r == 0:
        return number if start <= number else size
    columns = chosen[number * size:]
    signs = [row[column] for row, column in zip(kept, columns)]
    taken = chosen[r:number * size:size]
    return next_fitting(kept[r], columns + taken, signs, start)


def numbered(parts):
    """Return the rows with the number of the transversal that has a cell as its sign."""
    rows = [[0] * len(parts) for _ in parts]
    for number, columns in enumerate(parts):
        for r in range(len(parts)):
            rows[r][columns[r]] = number
    return tuple([tuple(row) for row in rows])
