"""Listed squares, and papers about their mates, as texts."""

from matedsquares.errors import InvalidNotation, InvalidPaper, InvalidSquare
from matedsquares.mates import are_mates, mate
from matedsquares.notation import (
    are_integers, integers_of, is_part_line, is_row_line, line_of, part_lines, row_lines,
)
from matedsquares.refusals import KINDS, check_no_mate, none_paper
from matedsquares.transversals import kept_rows


def squares_text(squares):
    """Return the written form of a list of squares."""
    lines = ["squares"]
    for rows in squares:
        lines.extend(part_lines(("listed", kept_rows(rows))))
    return "\n".join(lines)


def parse_squares(text):
    """Return the list of the squares that a text writes."""
    found = []
    for told, rows in read_squares(text.split("\n")):
        if told != len(rows):
            raise InvalidSquare("another number of rows than is written")
        found.append(kept_rows(rows))
    return found


def paper_text(rows, *, limit=200000):
    """Return the written form of the paper about a square: its mate, or that there is none."""
    kept = kept_rows(rows)
    found = mate(kept, limit=limit)
    if found is not None:
        return "\n".join(["mate", *row_lines(found)])
    questions = none_paper(kept, limit=limit)
    return "\n".join(["none", *[line_of(question[0], question[1:]) for question in questions]])


def parse_paper(text):
    """Return the first word of a paper and the list of its rows or of its questions."""
    lines = text.split("\n")
    word = lines[0]
    if word not in ("mate", "none"):
        raise InvalidPaper(1)
    found = []
    for number, line in enumerate(lines[1:], start=2):
        words = line.split(" ")
        if word == "mate" and is_row_line(words):
            found.append(integers_of(words))
        elif word == "none" and is_question_line(words):
            found.append((words[0], *integers_of(words)))
        else:
            raise InvalidPaper(number)
    return word, found


def check_text(rows, text):
    """Tell whether a text is a right paper about a square."""
    kept = kept_rows(rows)
    word, found = parse_paper(text)
    if word == "none":
        return check_no_mate(kept, found)
    try:
        return are_mates(kept, found)
    except InvalidSquare:
        return False


def read_squares(lines):
    """Return the squares that lines tell, each as how many rows are told ahead, and its rows."""
    if lines[0] != "squares":
        raise InvalidNotation(1)
    found = []
    for number, line in enumerate(lines[1:], start=2):
        words = line.split(" ")
        if words[0] == "listed" and is_part_line(words):
            found.append((int(words[1]), []))
        elif found and is_row_line(words):
            found[-1][1].append(integers_of(words))
        else:
            raise InvalidNotation(number)
    return found


def is_question_line(words):
    return words[0] in KINDS and len(words) == 3 and are_integers(words[1:])
