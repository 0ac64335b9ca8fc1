"""Subsquares and rings by the words of the points 57 and 58, slow and plain, sharing no code with
the program."""

from itertools import combinations

from tests import naive
from tests.naive_families import FieldByRank

KEPT_FIELDS = {}
KEPT_INVERSES = {}
KEPT_SPANS = {}


def field_of(p, k):
    if (p, k) not in KEPT_FIELDS:
        KEPT_FIELDS[p, k] = FieldByRank(p, k)
    return KEPT_FIELDS[p, k]


def power(field, one, times):
    result = 1
    for figure in bin(times)[2:]:
        result = field.product(result, result)
        if figure == "1":
            result = field.product(result, one)
    return result


def order(tree):
    if tree[0] == "listed":
        return len(tree[1])
    if tree[0] == "sum":
        return tree[1]
    if tree[0] == "field":
        return tree[1] ** tree[2]
    if tree[0] == "product":
        return order(tree[1]) * order(tree[2])
    return order(tree[1])


def third(tree, place, cell):
    """The part of a cell at a place, from the two others; what stands there is not looked at."""
    if tree[0] == "listed":
        for r, row in enumerate(tree[1]):
            for c, s in enumerate(row):
                if all((r, c, s)[at] == cell[at] for at in range(3) if at != place):
                    return (r, c, s)[place]
    if tree[0] == "sum":
        _, n, a, b = tree
        r, c, s = cell
        if place == 2:
            return (a * r + b * c) % n
        return (s - b * c) * pow(a, -1, n) % n if place == 0 else (s - a * r) * pow(b, -1, n) % n
    if tree[0] == "field":
        field = field_of(tree[1], tree[2])
        r, c, s = cell
        minus = field.size - 1 if tree[1] == 2 and tree[2] == 1 else field.p - 1
        if place == 2:
            return field.added(r, field.product(tree[3], c))
        if place == 0:
            return field.added(s, field.product(minus, field.product(tree[3], c)))
        if tree not in KEPT_INVERSES:
            KEPT_INVERSES[tree] = power(field, tree[3], field.size - 2)
        return field.product(KEPT_INVERSES[tree], field.added(s, field.product(minus, r)))
    if tree[0] == "product":
        size = order(tree[2])
        high = third(tree[1], place, [part // size for part in cell])
        return high * size + third(tree[2], place, [part % size for part in cell])
    old = [0, 0, 0]
    for at in range(3):
        old[tree[2][at]] = cell[at]
    return third(tree[1], tree[2][place], old)


def span(tree, cells):
    """The ascending rows, columns and signs of the least subsquare."""
    key = repr((tree, cells))
    if key not in KEPT_SPANS:
        KEPT_SPANS[key] = worked_out_span(tree, cells)
    return KEPT_SPANS[key]


def worked_out_span(tree, cells):
    sets = [{r for r, _ in cells}, {c for _, c in cells}, {third(tree, 2, (r, c, 0)) for r, c in cells}]
    before = None
    while before != [len(parts) for parts in sets]:
        before = [len(parts) for parts in sets]
        for place in range(3):
            one, other = [at for at in range(3) if at != place]
            for x in sorted(sets[one]):
                for y in sorted(sets[other]):
                    cell = [0, 0, 0]
                    cell[one], cell[other] = x, y
                    sets[place].add(third(tree, place, cell))
    return tuple(sorted(parts) for parts in sets)


def span_in_small(tree, cells):
    """The same for a square of which all cells are gone through again and again."""
    _, all_cells = naive.cells_of(tree)
    sets = [{r for r, _ in cells}, {c for _, c in cells}, set()]
    before = None
    while before != [len(parts) for parts in sets]:
        before = [len(parts) for parts in sets]
        for cell in all_cells:
            if sum(cell[at] in sets[at] for at in range(3)) > 1:
                for at in range(3):
                    sets[at].add(cell[at])
    return tuple(sorted(parts) for parts in sets)


def is_subsquare(rows, some_rows, some_columns):
    signs = {rows[r][c] for r in some_rows for c in some_columns}
    return len(set(some_rows)) == len(set(some_columns)) == len(signs)


def subsquares(rows, size):
    numbers = range(len(rows))
    return [(some_rows, some_columns) for some_rows in combinations(numbers, size)
            for some_columns in combinations(numbers, size)
            if len({rows[r][c] for r in some_rows for c in some_columns}) == size]


def rings(rows, one, other):
    left = list(range(len(rows)))
    found = []
    while left:
        ring = [left[0]]
        while True:
            column = rows[one].index(rows[other][ring[-1]])
            if column == ring[0]:
                break
            ring.append(column)
        found.append(ring)
        left = [column for column in left if column not in ring]
    return found
