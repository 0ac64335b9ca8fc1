"""The written form of squares."""

from matedsquares.errors import InvalidNotation, InvalidSquare
from matedsquares.squares import MOST_PARTS, checked

MOST_DIGITS = 31
DIGITS = "0123456789"

# How many integers stand behind the first word of a part, and how many parts below it.
INTEGERS = {"listed": 1, "sum": 3, "field": 3, "product": 0, "turned": 3}
BELOW = {"listed": 0, "sum": 0, "field": 0, "product": 2, "turned": 1}


def format_square(tree):
    """Return the written form of a square."""
    return "\n".join(["square", *part_lines(checked(tree))])


def parse_square(text):
    """Return the tree that a text writes."""
    parts = read_parts(text.split("\n"))
    # So many parts are no square, and may be nested deeper than calls may be.
    if len(parts) > MOST_PARTS:
        raise InvalidSquare("too many parts")
    tree, _ = tree_from(parts, 0)
    return checked(tree)


def part_lines(tree):
    """Return the lines of a checked tree."""
    kind = tree[0]
    if kind == "listed":
        return [line_of("listed", [len(tree[1])]), *row_lines(tree[1])]
    if kind == "product":
        return ["product", *part_lines(tree[1]), *part_lines(tree[2])]
    if kind == "turned":
        return [line_of("turned", tree[2]), *part_lines(tree[1])]
    return [line_of(kind, tree[1:])]


def row_lines(rows):
    return [line_of("row", row) for row in rows]


def line_of(word, numbers):
    return " ".join([word, *[str(number) for number in numbers]])


def read_parts(lines):
    """Return the parts that lines tell, in order, each as its kind, its integers and its rows."""
    if lines[0] != "square":
        raise InvalidNotation(1)
    parts = []
    missing = 1
    for number, line in enumerate(lines[1:], start=2):
        words = line.split(" ")
        if is_row_line(words):
            if not parts or parts[-1][0] != "listed":
                raise InvalidNotation(number)
            parts[-1][2].append(integers_of(words))
        elif missing > 0 and is_part_line(words):
            parts.append((words[0], integers_of(words), []))
            missing += BELOW[words[0]] - 1
        else:
            raise InvalidNotation(number)
    if missing > 0:
        raise InvalidNotation(len(lines) + 1)
    return parts


def is_row_line(words):
    return words[0] == "row" and len(words) > 1 and are_integers(words[1:])


def is_part_line(words):
    if words[0] not in INTEGERS or len(words) != INTEGERS[words[0]] + 1:
        return False
    return are_integers(words[1:])


def are_integers(words):
    return all(is_written_integer(word) for word in words)


def is_written_integer(word):
    if not 1 <= len(word) <= MOST_DIGITS or not all(character in DIGITS for character in word):
        return False
    return word == "0" or word[0] != "0"


def integers_of(words):
    """Return the integers behind the first word of a line."""
    return tuple([int(word) for word in words[1:]])


def tree_from(parts, at):
    """Return the tree that begins with the part at a place, and the place behind it."""
    kind, numbers, rows = parts[at]
    behind = at + 1
    if kind == "listed":
        if numbers != (len(rows),):
            raise InvalidSquare("another number of rows than is written")
        return ("listed", rows), behind
    if kind == "product":
        first, behind = tree_from(parts, behind)
        second, behind = tree_from(parts, behind)
        return ("product", first, second), behind
    if kind == "turned":
        first, behind = tree_from(parts, behind)
        return ("turned", first, numbers), behind
    return (kind, *numbers), behind
