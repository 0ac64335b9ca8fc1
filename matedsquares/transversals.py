"""Transversals of listed squares: n cells with each row, each column and each sign once."""

from matedsquares.errors import InvalidQuestion, TooMany
from matedsquares.squares import is_arrangement, square_rows


def kept_rows(rows):
    """Return the rows of a square of an order up to 12 as a tuple of tuples."""
    return square_rows(rows)


def is_transversal(rows, columns):
    """Tell whether integers are the columns of a transversal, row by row."""
    return is_transversal_of(kept_rows(rows), columns)


def transversals(rows, *, limit=200000):
    """Return the list of all transversals, ascending."""
    return found_transversals(kept_rows(rows), limit, False)


def transversal_count(rows, *, limit=200000):
    """Return the number of transversals."""
    return len(transversals(rows, limit=limit))


def first_transversal(rows, *, limit=200000):
    """Return the first transversal, or None."""
    found = found_transversals(kept_rows(rows), limit, True)
    return found[0] if found else None


def through(rows, row, column, *, limit=200000):
    """Return the list of the transversals that have a cell."""
    kept = kept_rows(rows)
    if not 0 <= row < len(kept) or not 0 <= column < len(kept):
        raise InvalidQuestion("no cell of the square")
    return [columns for columns in found_transversals(kept, limit, False) if columns[row] == column]


def is_transversal_of(kept, columns):
    size = len(kept)
    if not isinstance(columns, (list, tuple)) or not is_arrangement(columns, size):
        return False
    return is_arrangement([row[column] for row, column in zip(kept, columns)], size)


def found_transversals(kept, limit, first_alone):
    """Return the list of all transversals, or of the first one alone."""
    size = len(kept)
    found = []
    tried = 0
    columns = []
    signs = []
    column = 0
    while True:
        row = kept[len(columns)]
        column = next_fitting(row, columns, signs, column)
        if column < size:
            tried += 1
            if tried > limit:
                raise TooMany(limit)
            columns.append(column)
            signs.append(row[column])
            if len(columns) < size:
                column = 0
                continue
            found.append(tuple(columns))
            if first_alone:
                return found
        if not columns:
            return found
        signs.pop()
        column = columns.pop() + 1


def next_fitting(row, columns, signs, start):
    """Return the first column from a start on that is free in a row and so is its sign there.

    If there is none, this is the number of columns."""
    column = start
    while column < len(row) and (column in columns or row[column] in signs):
        column += 1
    return column
