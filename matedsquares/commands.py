"""The commands of sessions: which lines of words are commands."""

from matedsquares.library import NUMBERS
from matedsquares.names import is_name
from matedsquares.notation import is_written_integer

# How many names stand behind the first word, and how many numbers behind the names.
FORMS = {
    "square": (1, 0),
    "product": (3, 0),
    "turn": (2, 3),
    "switch": (2, 3),
    "remove": (1, 0),
    "drop": (1, 0),
    "answer": (1, 0),
    "answers": (0, 0),
    "print": (1, 0),
    "squares": (0, 0),
    "questions": (0, 0),
    "undo": (0, 0),
    "redo": (0, 0),
}


def split_words(line):
    """Return the words of a line: its parts between spaces that are not empty."""
    return [word for word in line.split(" ") if word]


def is_command(words):
    """Tell whether words, at least one, are a command."""
    if words[0] == "ask":
        return is_asking(words[1:])
    if words[0] not in FORMS:
        return False
    names, numbers = FORMS[words[0]]
    return len(words) == 1 + names + numbers and are_names_and_numbers(words[1:], names)


def is_asking(words):
    """Tell whether the words behind `ask` are a name, a kind, the name of a square and numbers."""
    if len(words) < 3 or words[1] not in NUMBERS or len(words) - 3 not in NUMBERS[words[1]]:
        return False
    return are_names_and_numbers([words[0], *words[2:]], 2)


def are_names_and_numbers(words, names):
    """Tell whether so many of some words are names, and all behind them numbers."""
    if not all(is_name(word) for word in words[:names]):
        return False
    return all(is_written_integer(word) for word in words[names:])
