"""Papers that a listed square has no mate: lists of questions that come to no answer."""

from matedsquares.errors import TooMany
from matedsquares.squares import is_integer
from matedsquares.transversals import kept_rows

KINDS = ("cell", "row", "column", "sign")
# Stands on top of the number of answers of a question that is answered; no question has so many.
ANSWERED = 1000


def none_paper(rows, *, limit=20000):
    """Return a right refusal, or None if the square has a mate."""
    way = Way(kept_rows(rows))
    paper = []
    while not way.ended:
        question = way.easiest()
        if question is None:
            return None
        if len(paper) == limit:
            raise TooMany(limit)
        paper.append(way.told(question))
        way.take(question)
    return paper


def check_no_mate(rows, paper):
    """Tell whether a list of questions is a right refusal."""
    way = Way(kept_rows(rows))
    for told in paper:
        question = way.number_of(told)
        if way.ended or question is None or not way.is_open(question):
            return False
        way.take(question)
    return way.ended


class Way:
    """The way through a refusal: at each place a part of a mate is given, the first row at first.

    An answer is the number (r * n + c) * n + v of a sign v at a cell. Questions are numbered by
    their kinds, and then by their two integers."""

    def __init__(self, rows):
        size = len(rows)
        self.size = size
        # For each answer the four questions that it answers, and for each question all answers,
        # which come in their order as cells and signs are gone through in order.
        self.questions = []
        self.choices = [[] for _ in range(4 * size * size)]
        for r in range(size):
            for c in range(size):
                for v in range(size):
                    self.add_answer([(r, c), (r, v), (c, v), (rows[r][c], v)])
        self.standing = [True] * len(self.questions)
        self.weights = [size] * len(self.choices)
        # What was given, each with the answers that could stand until then.
        self.given = []
        # For each question that is gone through, its answers that are still to be given, last first.
        self.waiting = []
        self.ended = False
        for c in range(size):
            self.give(c * size + c)

    def add_answer(self, pairs):
        answer = len(self.questions)
        self.questions.append([self.numbered(kind, pair) for kind, pair in enumerate(pairs)])
        for question in self.questions[answer]:
            self.choices[question].append(answer)

    def numbered(self, kind, pair):
        return (kind * self.size + pair[0]) * self.size + pair[1]

    def give(self, answer):
        gone = []
        for question in self.questions[answer]:
            self.weights[question] += ANSWERED
            for other in self.choices[question]:
                if self.standing[other]:
                    self.standing[other] = False
                    gone.append(other)
        for other in gone:
            for question in self.questions[other]:
                self.weights[question] -= 1
        self.given.append((answer, gone))

    def take_back(self):
        answer, gone = self.given.pop()
        for question in self.questions[answer]:
            self.weights[question] -= ANSWERED
        for other in gone:
            self.standing[other] = True
            for question in self.questions[other]:
                self.weights[question] += 1

    def take(self, question):
        """Go on to the next place behind a question: one with its first answer, or a later one."""
        answers = [answer for answer in self.choices[question] if self.standing[answer]]
        self.waiting.append(answers[::-1])
        while self.waiting and not self.waiting[-1]:
            self.waiting.pop()
            if self.waiting:
                self.take_back()
        if self.waiting:
            self.give(self.waiting[-1].pop())
        else:
            self.ended = True

    def is_open(self, question):
        return self.weights[question] < ANSWERED

    def easiest(self):
        """Return the first open question with the fewest answers, or None if none is open."""
        question = self.weights.index(min(self.weights))
        return question if self.is_open(question) else None

    def told(self, question):
        """Return a question as a tuple of its kind and two integers."""
        rest, second = divmod(question, self.size)
        kind, first = divmod(rest, self.size)
        return (KINDS[kind], first, second)

    def number_of(self, told):
        """Return the number of a question that is told so, or None if it tells none."""
        if not isinstance(told, (list, tuple)) or len(told) != 3 or told[0] not in KINDS:
            return None
        for number in told[1:]:
            if not is_integer(number) or not 0 <= number < self.size:
                return None
        return self.numbered(KINDS.index(told[0]), told[1:])
