"""Subsquares of squares, and rings of two rows."""

from matedsquares.errors import InvalidQuestion, TooMany
from matedsquares.squares import (
    COLUMN, GREATEST_LISTED, ROW, SIGN, checked, listed, need_points, square_of,
)

GREATEST_WITH_RINGS = 2000


def spanned(tree, cells, *, limit=200):
    """Return the rows, the columns and the signs of the least subsquare that holds the cells."""
    square = square_of(checked(tree))
    need_cells(square, cells)
    span = least_span(square, cells, limit)
    if span is None:
        raise TooMany(limit)
    return span


def is_subsquare(tree, rows, columns):
    """Tell whether some rows and columns are those of a subsquare."""
    square = square_of(checked(tree))
    need_points(square, rows)
    need_points(square, columns)
    own_rows = sorted(set(rows))
    own_columns = sorted(set(columns))
    if len(own_rows) != len(own_columns):
        return False
    # The least subsquare with a cell in each of the rows and of the columns has all of them; it has
    # no others if they are those of a subsquare.
    return least_span(square, list(zip(own_rows, own_columns)), len(own_rows)) is not None


def taken_out(tree, cells):
    """Return the least subsquare that holds the cells as a listed square of its own."""
    square = square_of(checked(tree))
    need_cells(square, cells)
    span = least_span(square, cells, GREATEST_LISTED)
    if span is None or not cells:
        raise InvalidQuestion("no cells, or a least subsquare with too many rows")
    rows, columns, signs = span
    taken = [[square.part_at(SIGN, (r, c, 0)) for c in columns] for r in rows]
    return ("listed", tuple([tuple([signs.index(own) for own in row]) for row in taken]))


def subsquares(tree, size, *, limit=20000):
    """Return the rows and the columns of all subsquares with so many rows, ascending."""
    square = square_of(listed(tree))
    if not 1 <= size <= square.order:
        raise InvalidQuestion("no number of rows of a subsquare")
    found = [((r,), (c,)) for r in range(square.order) for c in range(square.order)]
    known = {subsquare: True for subsquare in found}
    # Each subsquare comes of one of its cells if its rows are added one after the other.
    at = 0
    while at < len(found):
        for wider in with_one_row_more(square, found[at], size):
            if wider not in known:
                known[wider] = True
                found.append(wider)
        at += 1
    if len(found) > limit:
        raise TooMany(limit)
    return sorted([(rows, columns) for rows, columns in found if len(rows) == size])


def rings(tree, one, other):
    """Return the rings of two rows, each from its least column on."""
    square = square_of(checked(tree))
    if square.order > GREATEST_WITH_RINGS:
        raise InvalidQuestion("too great an order")
    return rings_of(square, one, other)


def switched(tree, one, other, column):
    """Return the listed square in which two rows are exchanged in the ring that has a column."""
    square = square_of(listed(tree))
    need_points(square, [one, other, column])
    rows = [list(row) for row in square.rows]
    for ring in rings_of(square, one, other):
        if column in ring:
            for at in ring:
                rows[one][at], rows[other][at] = rows[other][at], rows[one][at]
    return ("listed", tuple([tuple(row) for row in rows]))


def need_cells(square, cells):
    for cell in cells:
        need_points(square, cell)


def with_one_row_more(square, subsquare, most):
    """Return the least subsquares of at most so many rows with a subsquare and one row more."""
    rows, columns = subsquare
    # A square has at least twice as many rows as a subsquare that is not the whole of it.
    if 2 * len(rows) > most:
        return []
    cells = list(zip(rows, columns))
    found = []
    for row in range(square.order):
        if row not in rows:
            span = least_span(square, cells + [(row, columns[0])], most)
            if span is not None:
                found.append((tuple(span[0]), tuple(span[1])))
    return found


def rings_of(square, one, other):
    need_points(square, [one, other])
    if one == other:
        raise InvalidQuestion("one row twice")
    columns = range(square.order)
    below = [square.part_at(SIGN, (other, column, 0)) for column in columns]
    return cycles_of([square.part_at(COLUMN, (one, 0, own)) for own in below])


def cycles_of(behind):
    """Return the cycles that come of a list that tells for each integer the one behind it, each
    cycle from its least one on, by these ascending."""
    passed = [False] * len(behind)
    found = []
    for start in range(len(behind)):
        cycle = []
        at = start
        while not passed[at]:
            passed[at] = True
            cycle.append(at)
            at = behind[at]
        if cycle:
            found.append(cycle)
    return found


def least_span(square, cells, most):
    """Return the rows, the columns and the signs of the least subsquare that holds the cells, or
    None if it has more rows than so many."""
    if not cells:
        return [], [], []
    loop = Loop(square, cells[0])
    loop.add_cells(cells)
    if square.grouped:
        loop.add_multiples(most)
    else:
        loop.put_all_together(most)
    if len(loop.found) > most:
        return None
    rows = [loop.row_with(own) for own in loop.found]
    columns = [loop.column_with(own) for own in loop.found]
    return sorted(rows), sorted(columns), sorted(loop.found)


class Loop:
    """Signs of a square, put together by way of one of its cells, and those found so.

    A sign stands for the row that has it in the column of the cell, and for the column that has it
    in the row of the cell. Two signs put together are the sign in the row of the first one and the
    column of the second one; the sign of the cell, the one, leaves the other one as it is. So some
    signs and the one are those of a subsquare with the cell exactly if each two of them put
    together are one of them: then as many rows and columns have no other signs where they meet."""

    def __init__(self, base, cell):
        self.base = base
        self.row, self.column = cell
        self.row_by_sign = {}
        self.column_by_sign = {}
        self.found = []
        self.known = {}

    def sign_at(self, row, column):
        return self.base.part_at(SIGN, (row, column, 0))

    def row_with(self, own):
        if own not in self.row_by_sign:
            self.row_by_sign[own] = self.base.part_at(ROW, (0, self.column, own))
        return self.row_by_sign[own]

    def column_with(self, own):
        if own not in self.column_by_sign:
            self.column_by_sign[own] = self.base.part_at(COLUMN, (self.row, 0, own))
        return self.column_by_sign[own]

    def together(self, one, other):
        return self.sign_at(self.row_with(one), self.column_with(other))

    def take_in(self, own):
        if own not in self.known:
            self.known[own] = True
            self.found.append(own)

    def add_cells(self, cells):
        """Find the one first, and the signs that stand for the rows and columns of cells."""
        self.take_in(self.sign_at(self.row, self.column))
        for row, column in cells:
            self.take_in(self.sign_at(row, self.column))
            self.take_in(self.sign_at(self.row, column))

    def add_multiples(self, most):
        """Find all that comes of the signs that are found, or more than so many, where the square
        is grouped.

        There, putting together is adding in a group. To a part of it that is a group, and a further
        sign, belong the sums of the part and the multiples of the sign, up to the first one that is
        in the part."""
        waiting = self.found[1:]
        self.found = self.found[:1]
        self.known = {self.found[0]: True}
        for own in waiting:
            part = list(self.found)
            multiple = own
            while multiple not in self.known and len(self.found) <= most:
                for old in part:
                    self.take_in(self.together(old, multiple))
                multiple = self.together(multiple, own)

    def put_all_together(self, most):
        """Find all that comes of the signs that are found, or more than so many."""
        at = 0
        while at < len(self.found) and len(self.found) <= most:
            # A subsquare that is not the whole square has at most half as many rows.
            if 2 * len(self.found) > self.base.order:
                self.found = list(range(self.base.order))
                return
            own = self.found[at]
            part = self.found[:at + 1]
            for old in part:
                self.take_in(self.together(old, own))
                self.take_in(self.together(own, old))
            at += 1
