"""Squares and papers as texts: points 71 to 75."""

import copy
import random
import re
import unittest

from matedsquares import texts as module
from matedsquares.errors import InvalidNotation, InvalidPaper, InvalidSquare, TooMany
from matedsquares.mates import mate
from matedsquares.squares import table
from matedsquares.texts import check_text, paper_text, parse_paper, parse_squares, squares_text
from tests import naive, naive_papers
from tests.cases import Case
from tests.test_mates import MATES, WITH_MATE
from tests.test_refusals import FIVE, REFUSED
from tests.test_squares import NO_LISTED, SKEW, THIRTEEN_ROWS, THREE, TWELVE

LISTS = [
    [], [((0,),)], [((0,),)] * 3, [((0, 1), (1, 0)), ((1, 0), (0, 1)), ((0,),)],
    [table(("sum", n, 1, 1)) for n in range(1, 13)], [THREE[1], table(TWELVE), table(SKEW)],
    naive.all_squares(3),
]
# Each text with the number of the first line that cannot stand where it stands.
FAULTS = [
    ("", 1), (" ", 1), ("\n", 1), ("square", 1), ("Squares", 1), ("squares ", 1), (" squares", 1), ("squares 1", 1),
    ("squares\r", 1), ("\nsquares", 1), ("listed 1\nrow 0", 1), ("square\nlisted 1\nrow 0", 1), ("mate", 1),
    ("squares\n", 2), ("squares\n\nlisted 1\nrow 0", 2), ("squares\nsquares", 2), ("squares\nrow 0", 2),
    ("squares\nlisted", 2), ("squares\nlisted x", 2), ("squares\nlisted 1 1", 2), ("squares\nlisted 01", 2),
    ("squares\nlisted -1", 2), ("squares\nlisted +1", 2), ("squares\nlisted  1", 2), ("squares\nlisted 1 ", 2),
    ("squares\n listed 1", 2), ("squares\nListed 1", 2), ("squares\nlisted " + "1" * 32, 2), ("squares\nlisted\t1", 2),
    ("squares\nlisted \u0661", 2), ("squares\nsum 1 1 1", 2), ("squares\nfield 2 1 1", 2), ("squares\nproduct", 2),
    ("squares\nturned 0 1 2", 2), ("squares\nlisted 1\nsum 1 1 1", 3),
    ("squares\nlisted 1\nrow", 3), ("squares\nlisted 1\nrow ", 3), ("squares\nlisted 1\nrow  0", 3),
    ("squares\nlisted 1\nrow 0 ", 3), ("squares\nlisted 1\n row 0", 3), ("squares\nlisted 1\nrow 00", 3),
    ("squares\nlisted 1\nrow x", 3), ("squares\nlisted 1\nrow -1", 3), ("squares\nlisted 1\nROW 0", 3),
    ("squares\nlisted 1\n0", 3), ("squares\nlisted 1\n\nrow 0", 3), ("squares\nlisted 1\nrow " + "2" * 32, 3),
    ("squares\nlisted 1\nrow 0\r", 3), ("squares\nlisted 1\nrow 0\n", 4), ("squares\nlisted 1\nrow 0\n\n", 4),
    ("squares\nlisted 1\nrow 0\nsquares", 4), ("squares\nlisted 1\nrow 0\nlisted 2\nrow 0 1\nrow 1 0\n", 7),
    ("squares\nlisted 0\nlisted 0\nno", 4), ("squares\nlisted 2\nrow 0\nrow x", 4), ("squares\nlisted 1\nend", 3),
    # A fault of the form behind what tells no square.
    ("squares\nlisted 2\nrow 0 0\nrow 5\nlisted 3\nlisted", 6), ("squares\nlisted 0\nrow", 3),
]
NO_SQUARES = [
    "squares\nlisted 0", "squares\nlisted 1", "squares\nlisted 1\nrow 1", "squares\nlisted 1\nrow 0\nrow 0",
    "squares\nlisted 2\nrow 0", "squares\nlisted 2\nrow 0 1", "squares\nlisted 0\nrow 0", "squares\nlisted 1\nrow 0 1",
    "squares\nlisted 2\nrow 0 1\nrow 0 1", "squares\nlisted 2\nrow 0 1\nrow 1 0\nrow 0 1",
    "squares\nlisted 1\nrow 0\nlisted 2\nrow 1 0", "squares\nlisted 0\nlisted 1\nrow 0", "squares\nlisted " + "9" * 31,
    "squares\nlisted 3\nrow 0 1\nrow 1 0", "squares\nlisted 1\nrow " + "9" * 31, "squares\nlisted 1\nlisted 1\nrow 0",
    "squares\nlisted 13\n" + "\n".join("row " + " ".join(map(str, row)) for row in THIRTEEN_ROWS),
]
PAPER_FAULTS = [
    ("", 1), (" ", 1), ("\n", 1), ("Mate\nrow 0", 1), ("mates\nrow 0", 1), ("mate \nrow 0", 1), (" none", 1),
    ("none 1", 1), ("row 0", 1), ("cell 0 1", 1), ("mate none", 1), ("\nmate", 1), ("mate\r\nrow 0", 1), ("square", 1),
    ("mate\n", 2), ("none\n", 2), ("mate\n\nrow 0", 2), ("mate\ncell 0 1", 2), ("mate\nrow", 2), ("mate\nrow ", 2),
    ("mate\nrow  0", 2), ("mate\nrow 0 ", 2), ("mate\n row 0", 2), ("mate\nrow x", 2), ("mate\nrow 01", 2),
    ("mate\nrow -1", 2), ("mate\nlisted 1\nrow 0", 2), ("mate\nmate", 2), ("mate\nnone", 2), ("mate\n0 1", 2),
    ("mate\ncolumn 0 1", 2), ("mate\nrow " + "1" * 32, 2), ("mate\nrow 0\nrow 1 x", 3), ("mate\nrow 0\n", 3),
    ("mate\nrow 0\nrow 1\nsign 0 1", 4), ("mate\nrow\t0", 2), ("mate\nrow \u0660", 2),
    ("none\ncell", 2), ("none\ncell 0", 2), ("none\ncell 0 1 2", 2), ("none\nrow 0", 2), ("none\nrow 0 1 2", 2),
    ("none\ncell 0 x", 2), ("none\ncell 00 1", 2), ("none\ncell 0 -1", 2), ("none\ncell  0 1", 2), ("none\ncell 0 1 ", 2),
    ("none\n cell 0 1", 2), ("none\nCell 0 1", 2), ("none\ncells 0 1", 2), ("none\nmate", 2), ("none\nnone", 2),
    ("none\n0 1", 2), ("none\n 0 1", 2), ("none\ncell 0 " + "1" * 32, 2), ("none\ncell 0 1\ncell 0", 3),
    ("none\ncell 0 1\n\nrow 0 1", 3), ("none\nsign 0 1\ncolumn 1 0\nrow 2 3\nfield 0 1", 5), ("none\ncell 0\t1", 2),
]
INTEGER = "(0|[1-9][0-9]{0,30})"
ROW = f"row( {INTEGER})+"
QUESTION = f"(cell|row|column|sign) {INTEGER} {INTEGER}"


def first_wrong_line(text, may_stand):
    """The number of the first line that cannot stand behind those ahead of it, or None."""
    lines = text.split("\n")
    for at, line in enumerate(lines):
        if not may_stand(lines[:at], line):
            return at + 1
    return None


def may_stand_in_squares(ahead, line):
    if not ahead:
        return line == "squares"
    if re.fullmatch(f"listed {INTEGER}", line):
        return True
    return len(ahead) > 1 and re.fullmatch(ROW, line)


def may_stand_in_paper(ahead, line):
    if not ahead:
        return line in ("mate", "none")
    return re.fullmatch(ROW if ahead[0] == "mate" else QUESTION, line)


def changed_texts(texts, words, seed, count):
    """Texts in which a line or a word is changed, left out or doubled."""
    rng = random.Random(seed)
    for _ in range(count):
        lines = rng.choice(texts).split("\n")
        at = rng.randrange(len(lines))
        how = rng.randrange(5)
        if how == 0:
            lines.insert(at, rng.choice(words))
        elif how == 1:
            lines[at] = rng.choice(words)
        elif how == 2:
            del lines[at]
        else:
            own = lines[at].split(" ")
            place = rng.randrange(len(own))
            own[place:place + how - 3] = [rng.choice(words)]
            lines[at] = " ".join(own)
        yield "\n".join(lines)


class SquaresTest(Case):
    def test_examples(self):
        self.assertEqual(squares_text([[[0]], [[1, 0], [0, 1]]]), "squares\nlisted 1\nrow 0\nlisted 2\nrow 1 0\nrow 0 1")

    def test_there_and_back(self):
        for squares in LISTS:
            for form in (squares, tuple(squares), [[list(row) for row in rows] for rows in squares],
                         tuple([tuple(list(row) for row in rows) for rows in squares])):
                before = copy.deepcopy(form)
                text = squares_text(form)
                self.assertEqual(form, before)
                found = parse_squares(text)
                self.assertEqual(found, list(squares))
                self.assertIsInstance(found, list)
                self.assertTrue(all(isinstance(rows, tuple) and isinstance(rows[0], tuple) for rows in found))
                self.assertEqual(squares_text(found), text)

    def test_forms_by_hand(self):
        self.assertEqual(squares_text([]), "squares")
        self.assertEqual(squares_text(()), "squares")
        self.assertEqual(parse_squares("squares"), [])
        self.assertEqual(parse_squares("squares\nlisted 2\nrow 1 0\nrow 0 1\nlisted 1\nrow 0"), [((1, 0), (0, 1)), ((0,),)])
        text = squares_text([table(("sum", 12, 1, 1))]).split("\n")
        self.assertEqual(text[:3], ["squares", "listed 12", "row 0 1 2 3 4 5 6 7 8 9 10 11"])
        self.assertEqual((text[3], len(text)), ("row 1 2 3 4 5 6 7 8 9 10 11 0", 14))

    def test_new_lists(self):
        found = parse_squares("squares\nlisted 1\nrow 0")
        found.append(5)
        self.assertEqual(parse_squares("squares\nlisted 1\nrow 0"), [((0,),)])

    def test_writing_what_is_no_square(self):
        for rows in NO_LISTED:
            for squares in ([rows], [[[0]], rows], (rows, [[0]])):
                self.fault(InvalidSquare, squares_text, squares)

    def test_lines_of_faults(self):
        for text, line in FAULTS:
            self.assertEqual(self.fault(InvalidNotation, parse_squares, text).line, line, repr(text))
            self.assertEqual(first_wrong_line(text, may_stand_in_squares), line, repr(text))

    def test_right_form_but_no_square(self):
        for text in NO_SQUARES:
            self.fault(InvalidSquare, parse_squares, text)

    def test_changed_texts(self):
        words = ["row", "0", "1", "2", "listed", "listed 1", "listed 2", "row 0", "row 1 0", "squares", "", "x", "00", "row  0"]
        texts = [squares_text(squares) for squares in LISTS[:4]] + NO_SQUARES[:8]
        outcomes = {"line": 0, "none": 0, "right": 0}
        for text in changed_texts(texts, words, 71, 3000):
            line = first_wrong_line(text, may_stand_in_squares)
            if line:
                outcomes["line"] += 1
                self.assertEqual(self.fault(InvalidNotation, parse_squares, text).line, line, repr(text))
                continue
            squares = []
            for part in re.split("\nlisted ", text)[1:]:
                told, *rows = part.split("\n")
                squares.append((int(told), tuple(tuple(map(int, row.split()[1:])) for row in rows)))
            if all(told == len(rows) > 0 and naive.is_square(rows) for told, rows in squares):
                outcomes["right"] += 1
                self.assertEqual(parse_squares(text), [rows for _, rows in squares])
            else:
                outcomes["none"] += 1
                self.fault(InvalidSquare, parse_squares, text)
        self.assertGreater(min(outcomes.values()), 30, outcomes)

    def test_thousands_of_squares(self):
        text = "squares" + "\nlisted 1\nrow 0" * 20000
        self.assertEqual(parse_squares(text), [((0,),)] * 20000)
        self.assertEqual(squares_text([[[0]]] * 20000), text)
        self.fault(InvalidSquare, parse_squares, "squares\nlisted 1" + "\nrow 0" * 20000)

    def test_interface(self):
        for name in ("squares_text", "parse_squares", "paper_text", "parse_paper", "check_text"):
            self.assertEqual(getattr(module, name).__module__, "matedsquares.texts")


class PapersTest(Case):
    def test_examples(self):
        self.assertEqual(paper_text([[0, 1, 2], [1, 2, 0], [2, 0, 1]]), "mate\nrow 0 1 2\nrow 2 0 1\nrow 1 2 0")
        self.assertIs(check_text([[0]], "mate\nrow 0"), True)
        self.assertIs(check_text([[0, 1], [1, 0]], "mate\nrow 0 1\nrow 1 0"), False)
        self.assertEqual(parse_paper("none\ncell 0 1\nsign 2 0"), ("none", [("cell", 0, 1), ("sign", 2, 0)]))
        self.assertEqual(self.fault(InvalidPaper, parse_paper, "mate\ncell 0 1").line, 2)

    def test_papers_of_squares_with_a_mate(self):
        for rows in WITH_MATE:
            before = [list(row) for row in rows]
            text = paper_text(before)
            self.assertEqual(before, [list(row) for row in rows])
            right = mate(rows)
            self.assertEqual(text, "mate\n" + "\n".join("row " + " ".join(map(str, row)) for row in right))
            self.assertEqual(parse_paper(text), ("mate", list(right)))
            self.assertIs(check_text(before, text), True)

    def test_papers_of_squares_without_a_mate(self):
        for rows, paper in REFUSED:
            text = paper_text([list(row) for row in rows])
            self.assertEqual(text, "none" + "".join(f"\n{kind} {one} {other}" for kind, one, other in paper))
            self.assertEqual(parse_paper(text), ("none", paper))
            self.assertIs(check_text(rows, text), True)

    def test_limits_just_met_and_just_exceeded(self):
        for rows in naive.all_squares(3)[::2] + [((0,),), THREE[1], table(("sum", 7, 2, 3))]:
            _, tried = naive.first_mate(rows)
            self.assertEqual(paper_text(rows, limit=tried), paper_text(rows))
            for limit in (tried - 1, 0):
                self.assertEqual(self.fault(TooMany, paper_text, rows, limit=limit).limit, limit)
        seen = set()
        for rows in [rows for rows, _ in REFUSED] + [SKEW[1], FIVE, table(("sum", 4, 1, 1))]:
            _, tried = naive.first_mate(rows)
            _, taken = naive_papers.paper(rows)
            seen.add(tried < taken)
            enough = max(tried, taken)
            self.assertEqual(paper_text(rows, limit=enough).split("\n")[0], "none")
            for limit in (enough - 1, min(tried, taken) - 1):
                self.assertEqual(self.fault(TooMany, paper_text, rows, limit=limit).limit, limit)
        # There are those with more cells that are tried, and those with more questions.
        self.assertEqual(seen, {True, False})

    def test_no_squares_come_ahead(self):
        for rows in NO_LISTED:
            self.fault(InvalidSquare, paper_text, rows, limit=0)
            for text in ("mate\nrow 0", "", "no paper", "none\ncell 0", "none\ncell 0 0"):
                self.fault(InvalidSquare, check_text, rows, text)

    def test_parse(self):
        for text, right in (
                ("mate", ("mate", [])), ("none", ("none", [])), ("mate\nrow 7", ("mate", [(7,)])),
                ("mate\nrow 0 1\nrow 5\nrow 3 3 3", ("mate", [(0, 1), (5,), (3, 3, 3)])),
                ("none\nrow 0 99\ncolumn 12 0\ncell 0 0\nsign 3 4\nsign 3 4",
                 ("none", [("row", 0, 99), ("column", 12, 0), ("cell", 0, 0), ("sign", 3, 4), ("sign", 3, 4)])),
                ("mate\nrow " + "9" * 31, ("mate", [(10 ** 31 - 1,)])),
                ("none\ncell 0 1" + "0" * 30, ("none", [("cell", 0, 10 ** 30)]))):
            found = parse_paper(text)
            self.assertEqual(found, right)
            self.assertIsInstance(found, tuple)
            self.assertIsInstance(found[1], list)
            self.assertTrue(all(isinstance(line, tuple) for line in found[1]))
            found[1].append(5)
            self.assertEqual(parse_paper(text), right)

    def test_lines_of_faults(self):
        for text, line in PAPER_FAULTS:
            self.assertEqual(self.fault(InvalidPaper, parse_paper, text).line, line, repr(text))
            self.assertEqual(self.fault(InvalidPaper, check_text, [[0]], text).line, line, repr(text))
            self.assertEqual(first_wrong_line(text, may_stand_in_paper), line, repr(text))

    def test_changed_texts(self):
        words = ["row", "0", "1", "2", "cell", "cell 0 1", "row 1 2", "row 0", "sign 2 1", "mate", "none", "", "x", "00"]
        squares = WITH_MATE[1:3] + [rows for rows, paper in REFUSED if len(rows) < 6][-6:]
        by_text = {paper_text(rows): rows for rows in squares}
        outcomes = {"line": 0, True: 0, False: 0}
        for text in changed_texts(list(by_text), words, 73, 2500):
            line = first_wrong_line(text, may_stand_in_paper)
            for rows in squares[::3]:
                if line:
                    outcomes["line"] += 1
                    self.assertEqual(self.fault(InvalidPaper, check_text, rows, text).line, line)
                    continue
                right = self.is_right(rows, text)
                outcomes[right] += 1
                self.assertIs(check_text(rows, text), right, (rows, text))
        self.assertGreater(min(outcomes.values()), 10, outcomes)

    def is_right(self, rows, text):
        word, *lines = [line.split() for line in text.split("\n")]
        if word == ["none"]:
            return naive_papers.is_right(rows, [(kind, int(one), int(other)) for kind, one, other in lines])
        told = [tuple(map(int, words[1:])) for words in lines]
        if len(told) != len(rows) or not naive.is_square(told):
            return False
        return len({(a, b) for one, other in zip(rows, told) for a, b in zip(one, other)}) == len(rows) ** 2

    def test_mates_whoever_wrote_them(self):
        for one, other in MATES:
            text = "mate\n" + "\n".join("row " + " ".join(map(str, row)) for row in other)
            self.assertIs(check_text(one, text), True)
            # Rows that are no square, too few, too many, or of unlike lengths.
            lines = text.split("\n")
            for wrong in (lines[:-1], lines + ["row 0"], lines + lines[1:2], [lines[0] + ""] + lines[:0:-1][1:],
                          lines[:-1] + [lines[-1] + " 0"], ["none"], ["mate"]):
                self.assertIs(check_text(one, "\n".join(wrong)), False, wrong)
            if len(one) > 1:
                self.assertIs(check_text(one, "\n".join(lines[:1] + lines[2:] + lines[1:2])),
                              naive_mates(one, other[1:] + other[:1]))
        self.assertIs(check_text(THREE[1], "mate\nrow 0"), False)
        self.assertIs(check_text([[0]], "mate\n" + "row 0 1\nrow 1 0"), False)

    def test_papers_of_other_squares(self):
        texts = [(rows, paper_text(rows)) for rows in WITH_MATE[:6] + [rows for rows, _ in REFUSED[::5]]]
        for rows, _ in texts:
            for _, text in texts:
                self.assertIs(check_text(rows, text), self.is_right(rows, text))

    def test_refusals_whoever_wrote_them(self):
        rng = random.Random(75)
        for rows, _ in REFUSED[::4]:
            other, _ = naive_papers.paper(rows, lambda choices: rng.choice(naive_papers.easy(choices)), 4000)
            if other is None:
                continue
            text = "none" + "".join(f"\n{kind} {a} {b}" for kind, a, b in other)
            self.assertIs(check_text(rows, text), True)
            self.assertIs(check_text(rows, text + "\ncell 1 0"), False)
            self.assertIs(check_text(rows, text.rsplit("\n", 1)[0]), False)
            self.assertIs(check_text(rows, text.replace(" 0", " 99", 1)), False)


def naive_mates(one, other):
    return len({pair for row, own in zip(one, other) for pair in zip(row, own)}) == len(one) ** 2


if __name__ == "__main__":
    unittest.main()
