"""Arrays, nets and codes by the words of the points 92 to 101, slow and plain, sharing no code with
the program."""

from itertools import combinations


def array(squares):
    n = len(squares[0])
    return [(r, c) + tuple(rows[r][c] for rows in squares) for r in range(n) for c in range(n)]


def array_fault(rows):
    for one, other in combinations(range(len(rows[0])), 2):
        for number, row in enumerate(rows):
            for before in range(number):
                if (rows[before][one], rows[before][other]) == (row[one], row[other]):
                    return one, other, before, number
    return None


def net(squares):
    n = len(squares[0])
    points = range(n * n)
    kinds = [[point // n for point in points], [point % n for point in points]]
    kinds += [[rows[point // n][point % n] for point in points] for rows in squares]
    return [[tuple(point for point in points if kind[point] == sign) for sign in range(n)] for kind in kinds]


def net_fault(classes):
    faults = [(one, other, line, met)
              for one, other in combinations(range(len(classes)), 2)
              for line, points in enumerate(classes[one])
              for met, others in enumerate(classes[other]) if len(set(points) & set(others)) > 1]
    if not faults:
        return None
    one, other, line, met = min(faults)
    return one, line, other, met


def squares_of_net(n, classes):
    found = []
    for lines in classes[2:]:
        cells = {}
        for sign, line in enumerate(lines):
            for point in line:
                row = [point in own for own in classes[0]].index(True)
                column = [point in own for own in classes[1]].index(True)
                cells[row, column] = sign
        found.append(tuple(tuple(cells[r, c] for c in range(n)) for r in range(n)))
    return found


def distance(one, other):
    return sum(a != b for a, b in zip(one, other))


def code_fault(words):
    for number, word in enumerate(words):
        for before in range(number):
            if len(word) - distance(words[before], word) > 1:
                return before, number
    return None


def told_again(code, word):
    found = [own for own in code if all(sign in (None, part) for sign, part in zip(word, own))]
    assert len(found) < 2
    return found[0] if found else None


def righted(code, word):
    found = [own for own in code if distance(own, word) < 2]
    assert len(found) < 2
    return found[0] if found else None
