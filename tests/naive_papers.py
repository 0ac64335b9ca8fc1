"""Refusals by the words of the points 37 to 41, slow and plain, sharing no code with the program."""

KINDS = ("cell", "row", "column", "sign")


def first_row(rows):
    return {(0, c): c for c in range(len(rows))}


def standing(rows, given):
    """All triples of row, column and sign that can stand."""
    n = len(rows)
    found = set()
    for r in range(n):
        for c in range(n):
            if (r, c) in given:
                continue
            for v in range(n):
                barred = any(w == v and (i == r or j == c or rows[i][j] == rows[r][c])
                             for (i, j), w in given.items())
                if not barred:
                    found.add((r, c, v))
    return found


def cells_of(rows, question):
    """The triples that a question is about, in the order of its answers."""
    n = len(rows)
    kind, a, b = question
    if kind == "cell":
        return [(a, b, v) for v in range(n)]
    if kind == "row":
        return [(a, c, b) for c in range(n)]
    if kind == "column":
        return [(r, a, b) for r in range(n)]
    return [(r, rows[r].index(a), b) for r in range(n)]


def is_open(rows, given, question):
    return not any(given.get((r, c)) == v for r, c, v in cells_of(rows, question))


def open_questions(rows, given):
    """The open questions with their answers, in the order of the kinds and integers."""
    n = len(rows)
    can = standing(rows, given)
    found = []
    for kind in KINDS:
        for a in range(n):
            for b in range(n):
                if is_open(rows, given, (kind, a, b)):
                    answers = [cell for cell in cells_of(rows, (kind, a, b)) if cell in can]
                    found.append(((kind, a, b), answers))
    return found


def easy(choices):
    """Those of some questions with their answers that have at most one more than the fewest."""
    fewest = min(len(answers) for _, answers in choices)
    return [(question, answers) for question, answers in choices if len(answers) <= fewest + 1]


class Found(Exception):
    """There is a mate."""


def paper(rows, choose=None, most=10 ** 9):
    """The refusal, or None for a square with a mate, and how many questions are taken.

    At each place the question is taken that `choose` takes of the open ones with their answers."""
    rows = tuple(tuple(row) for row in rows)
    taken = []

    def go(given):
        choices = open_questions(rows, given)
        if not choices or len(taken) == most:
            raise Found
        question, answers = choose(choices) if choose else min(choices, key=lambda one: len(one[1]))
        taken.append(question)
        for r, c, v in answers:
            go({**given, (r, c): v})

    try:
        go(first_row(rows))
    except Found:
        return None, len(taken)
    return taken, len(taken)


def is_right(rows, questions):
    """Whether a list of tuples is a right refusal (point 39)."""
    rows = tuple(tuple(row) for row in rows)
    n = len(rows)

    def behind(at, given):
        """The place behind the refusal that begins here, or None if none does."""
        if at == len(questions):
            return None
        kind, a, b = questions[at]
        if kind not in KINDS or not (0 <= a < n and 0 <= b < n):
            return None
        if not is_open(rows, given, (kind, a, b)):
            return None
        can = standing(rows, given)
        at += 1
        for r, c, v in cells_of(rows, (kind, a, b)):
            if (r, c, v) in can:
                at = behind(at, {**given, (r, c): v})
                if at is None:
                    return None
        return at

    return behind(0, first_row(rows)) == len(questions)
