"""The names of squares and questions in sessions."""

MOST_CHARACTERS = 12
LETTERS = "abcdefghijklmnopqrstuvwxyz"
LETTERS_AND_DIGITS = "abcdefghijklmnopqrstuvwxyz0123456789"


def is_name(text):
    """Tell whether a string is a name: 1 to 12 letters and digits, a letter first."""
    if not 1 <= len(text) <= MOST_CHARACTERS or text[0] not in LETTERS:
        return False
    return all(character in LETTERS_AND_DIGITS for character in text)
