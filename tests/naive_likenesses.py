"""Names, likenesses and counts by the words of the points 76 to 90, slow and plain, sharing no code
with the program."""

from itertools import combinations, permutations, product as choices


def led(rows, maps):
    """The square to which three maps lead a square, by its cells one after another."""
    n = len(rows)
    cells = {(maps[0][r], maps[1][c]): maps[2][rows[r][c]] for r in range(n) for c in range(n)}
    return tuple(tuple(cells[r, c] for c in range(n)) for r in range(n))


def likenesses(one, other):
    """All likenesses, by going through all maps of the rows and of the columns."""
    n = len(one)
    if n != len(other):
        return []
    found = []
    for rows, columns in choices(permutations(range(n)), repeat=2):
        signs = {}
        for r, c in choices(range(n), repeat=2):
            if signs.setdefault(one[r][c], other[rows[r]][columns[c]]) != other[rows[r]][columns[c]]:
                break
        else:
            found.append((rows, columns, tuple(signs[own] for own in range(n))))
    return found


def standard(rows):
    """The one square in standard form that comes by names which leave the columns and the row 0."""
    n = len(rows)
    found = []
    for signs in permutations(range(n)):
        if [signs[own] for own in rows[0]] != list(range(n)):
            continue
        for names in permutations(range(1, n)):
            maps = ((0,) + names, tuple(range(n)), signs)
            new = led(rows, maps)
            if [row[0] for row in new] == list(range(n)):
                found.append((new, maps))
    assert len(found) == 1
    return found[0]


def seen_as(rows, word):
    """The cells as triples: the lines that a word tells, then where one goes along, then by what
    the rounds go."""
    n = len(rows)
    for r, c in choices(range(n), repeat=2):
        s = rows[r][c]
        yield {"row": (r, c, s), "column": (c, r, s), "sign": (s, r, c)}[word]


def rounds(rows, word, one, other):
    cells = list(seen_as(rows, word))
    at_one = {own: along for line, along, own in cells if line == one}
    at_other = {along: own for line, along, own in cells if line == other}
    lengths = []
    left = set(range(len(rows)))
    while left:
        start = own = min(left)
        length = 0
        while True:
            left.discard(own)
            length += 1
            own = at_other[at_one[own]]
            if own == start:
                break
        lengths.append(length)
    return sorted(lengths)


def all_rounds(rows, word):
    found = {}
    for one, other in combinations(range(len(rows)), 2):
        lengths = tuple(rounds(rows, word, one, other))
        found[lengths] = found.get(lengths, 0) + 1
    return sorted(found.items())


def all_twos(rows):
    """All twos, each as its two rows and its two columns."""
    return [(two_rows, two_columns)
            for two_rows in combinations(range(len(rows)), 2)
            for two_columns in combinations(range(len(rows)), 2)
            if len({rows[r][c] for r in two_rows for c in two_columns}) == 2]


def twos(rows):
    n = len(rows)
    found = all_twos(rows)
    return tuple(tuple(sum(r in two_rows and c in two_columns for two_rows, two_columns in found)
                       for c in range(n)) for r in range(n))


def counts(rows):
    return (len(rows),) + tuple(tuple(all_rounds(rows, word)) for word in ("row", "column", "sign"))
