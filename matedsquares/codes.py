"""Codes: the rows of an array are words, of which lost and wrong signs are told again."""

from matedsquares.arrays import array_of, need_rows, need_signs
from matedsquares.errors import InvalidQuestion

FEWEST_LEFT = 2
# With as many places, two words of a code differ in three places or more.
FEWEST_TO_RIGHT = 4


def agreements(one, other):
    """Return the list of the places at which two words agree."""
    if len(one) != len(other):
        raise InvalidQuestion("words of unlike lengths")
    return [place for place, own in enumerate(one) if own == other[place]]


def code_fault(order, words):
    """Return the numbers of the first word that agrees with an earlier one in two places or more,
    and of the first such earlier one, that ahead; or None."""
    need_rows(order, words)
    for number, word in enumerate(words):
        for before in range(number):
            if len(agreements(words[before], word)) > 1:
                return (before, number)
    return None


def told_again(squares, word):
    """Return the word of the code that has all signs that are left of a word, or None."""
    code = array_of(squares)
    left = [own for own in word if own is not None]
    need_word(squares, word, left)
    if len(left) < FEWEST_LEFT:
        raise InvalidQuestion("fewer than two signs are left")
    return first_near(code, word, len(left))


def righted(squares, word):
    """Return the word of the code that differs from a word in one place at most, or None."""
    code = array_of(squares)
    need_word(squares, word, word)
    if len(word) < FEWEST_TO_RIGHT:
        raise InvalidQuestion("words of three places or fewer")
    return first_near(code, word, len(word) - 1)


def wrong_place(squares, word):
    """Return the place at which that word of the code differs, or None if the word is right."""
    right = righted(squares, word)
    if right is None:
        raise InvalidQuestion("no word of the code differs in one place at most")
    for place, own in enumerate(word):
        if own != right[place]:
            return place
    return None


def need_word(squares, word, signs):
    """Need a word of the length of those of a code, and signs of its order."""
    if len(word) != len(squares) + 2:
        raise InvalidQuestion("a word of another length")
    need_signs(len(squares[0]), signs)


def first_near(code, word, fewest):
    """Return the first word of a code that agrees with a word in so many places or more, or None."""
    for own in code:
        if len(agreements(own, word)) >= fewest:
            return own
    return None
