"""Slow and plain ways to the same answers, which share no code with the program."""

from itertools import permutations, product as choices


def is_prime(number):
    return number > 1 and all(number % divisor for divisor in range(2, number))


def figures(p, count, number):
    return [number // p ** place % p for place in range(count)]


def number_of(p, coefficients):
    return sum(figure % p * p ** place for place, figure in enumerate(coefficients))


def multiply(p, one, other):
    result = [0] * (len(one) + len(other) - 1)
    for i, a in enumerate(one):
        for j, b in enumerate(other):
            result[i + j] = (result[i + j] + a * b) % p
    return result


def remainder(p, one, monic):
    """The remainder by a polynomial with the leading coefficient 1."""
    rest = [figure % p for figure in one]
    while len(rest) >= len(monic):
        lead = rest[-1]
        shift = len(rest) - len(monic)
        rest = [(figure - (lead * monic[i - shift] if i >= shift else 0)) % p
                for i, figure in enumerate(rest)][:-1]
    return rest


def is_irreducible_by_divisors(p, lower):
    """By division by all polynomials of at most half the degree."""
    whole = list(lower) + [1]
    for degree in range(1, len(lower) // 2 + 1):
        for tail in choices(range(p), repeat=degree):
            if not any(remainder(p, whole, list(tail) + [1])):
                return False
    return True


def is_irreducible_by_rank(p, lower):
    """Berlekamp's way: the polynomials whose p-th power is themselves are the constants alone."""
    k = len(lower)
    whole = list(lower) + [1]
    step = remainder(p, [0] * p + [1], whole)
    step += [0] * (k - len(step))
    row = [1] + [0] * (k - 1)
    matrix = []
    for i in range(k):
        matrix.append([(row[j] - (i == j)) % p for j in range(k)])
        row = remainder(p, multiply(p, row, step), whole)
        row += [0] * (k - len(row))
    if rank(p, matrix) != k - 1:
        return False
    # A power of one irreducible polynomial has this rank, too, but a factor with its derivative.
    slope = trimmed([place * figure % p for place, figure in enumerate(whole)][1:])
    one, other = whole, slope
    while other:
        back = pow(other[-1], -1, p)
        monic = [figure * back % p for figure in other]
        one, other = monic, trimmed(remainder(p, one, monic))
    return len(one) == 1


def trimmed(coefficients):
    kept = list(coefficients)
    while kept and kept[-1] == 0:
        kept.pop()
    return kept


def rank(p, matrix):
    rows = [list(row) for row in matrix]
    done = 0
    for column in range(len(rows[0])):
        pivots = [row for row in rows[done:] if row[column]]
        if not pivots:
            continue
        pivot = pivots[0]
        rows.remove(pivot)
        rows.insert(done, pivot)
        back = pow(pivot[column], -1, p)
        for at in range(done + 1, len(rows)):
            factor = rows[at][column] * back
            rows[at] = [(a - factor * b) % p for a, b in zip(rows[at], pivot)]
        done += 1
    return done


class NaiveField:
    """A field by the words of the points 15 to 18."""

    def __init__(self, p, k):
        self.p, self.k, self.size = p, k, p ** k
        self.lower = [0]
        if k > 1:
            number = 0
            while not is_irreducible_by_divisors(p, figures(p, k, number)):
                number += 1
            self.lower = figures(p, k, number)

    def added(self, one, other):
        pairs = zip(figures(self.p, self.k, one), figures(self.p, self.k, other))
        return number_of(self.p, [a + b for a, b in pairs])

    def product(self, one, other):
        both = multiply(self.p, figures(self.p, self.k, one), figures(self.p, self.k, other))
        if self.k == 1:
            return one * other % self.p
        return number_of(self.p, remainder(self.p, both, self.lower + [1]))

    def power(self, one, times):
        result = 1
        for _ in range(times):
            result = self.product(result, one)
        return result


KEPT_CELLS = {}


def cells_of(tree):
    """The order and the cells, as triples of row, column and sign, by the words of point 3."""
    key = repr(tree)
    if key not in KEPT_CELLS:
        KEPT_CELLS[key] = worked_out_cells(tree)
    return KEPT_CELLS[key]


def worked_out_cells(tree):
    kind = tree[0]
    if kind == "listed":
        rows = tree[1]
        return len(rows), [(r, c, s) for r, row in enumerate(rows) for c, s in enumerate(row)]
    if kind == "sum":
        _, n, a, b = tree
        return n, [(r, c, (a * r + b * c) % n) for r in range(n) for c in range(n)]
    if kind == "field":
        field = NaiveField(tree[1], tree[2])
        n = field.size
        steps = [field.product(tree[3], c) for c in range(n)]
        return n, [(r, c, field.added(r, steps[c])) for r in range(n) for c in range(n)]
    if kind == "product":
        n, first = cells_of(tree[1])
        m, second = cells_of(tree[2])
        return n * m, [tuple(a * m + b for a, b in zip(one, other))
                       for one in first for other in second]
    n, cells = cells_of(tree[1])
    return n, [tuple(cell[place] for place in tree[2]) for cell in cells]


def rows_of(tree):
    n, cells = cells_of(tree)
    signs = {(r, c): s for r, c, s in cells}
    return tuple(tuple(signs[r, c] for c in range(n)) for r in range(n))


def is_square(rows):
    n = len(rows)
    whole = set(range(n))
    return all(set(row) == whole and len(row) == n for row in rows) and \
        all({row[c] for row in rows} == whole for c in range(n))


def transversals(rows):
    n = len(rows)
    return [columns for columns in permutations(range(n))
            if len({row[c] for row, c in zip(rows, columns)}) == n]


def tries(rows):
    """For all transversals, and for the first one alone, how many cells are tried."""
    n = len(rows)
    state = {"tried": 0, "first": None}

    def go(columns):
        if len(columns) == n:
            if state["first"] is None:
                state["first"] = state["tried"]
            return
        signs = [rows[r][c] for r, c in enumerate(columns)]
        for c in range(n):
            if c not in columns and rows[len(columns)][c] not in signs:
                state["tried"] += 1
                go(columns + [c])

    go([])
    first = state["tried"] if state["first"] is None else state["first"]
    return state["tried"], first


def first_mate(rows):
    """The mate of point 36, or None, and how many cells are tried up to that."""
    n = len(rows)
    state = {"tried": 0}

    def go(done, columns):
        if len(columns) == n:
            done, columns = done + [columns], []
        if len(done) == n:
            return done
        r = len(columns)
        signs = [rows[row][c] for row, c in enumerate(columns)]
        for c in range(n) if columns else [len(done)]:
            fits = c not in columns and rows[r][c] not in signs
            if fits and all(other[r] != c for other in done):
                state["tried"] += 1
                found = go(done, columns + [c])
                if found:
                    return found
        return None

    found = go([], [])
    if not found:
        return None, state["tried"]
    mate = tuple(tuple([parts[r] for parts in found].index(c) for c in range(n)) for r in range(n))
    return mate, state["tried"]


def all_squares(n):
    """All squares of a small order, as tuples of rows."""
    found = []

    def go(rows):
        if len(rows) == n:
            found.append(tuple(rows))
            return
        for row in permutations(range(n)):
            if all(row[c] != other[c] for other in rows for c in range(n)):
                go(rows + [row])

    go([])
    return found


def switched_often(rows, rng, steps=60):
    """A square that comes of another one by many exchanges and turns, chosen by `rng`."""
    n = len(rows)
    rows = [list(row) for row in rows]
    for _ in range(steps if n > 1 else 0):
        one, other = rng.sample(range(n), 2)
        column = rng.randrange(n)
        while column is not None:
            rows[one][column], rows[other][column] = rows[other][column], rows[one][column]
            twice = [c for c in range(n) if c != column and rows[one][c] == rows[one][column]]
            column = twice[0] if twice else None
        places = rng.sample(range(3), 3)
        turned = [[0] * n for _ in range(n)]
        for r in range(n):
            for c in range(n):
                cell = (r, c, rows[r][c])
                turned[cell[places[0]]][cell[places[1]]] = cell[places[2]]
        rows = turned
    return tuple(tuple(row) for row in rows)
