"""Codes: points 96 to 102."""

import copy
import random
import unittest
from itertools import combinations, product

from matedsquares import codes as module
from matedsquares.arrays import array_fault, array_of
from matedsquares.codes import agreements, code_fault, righted, told_again, wrong_place
from matedsquares.errors import InvalidQuestion, InvalidSquare
from tests import naive_codes
from tests.cases import Case
from tests.test_arrays import NO_FAMILIES, ORDERS, TWO_COLUMNS
from tests.test_judged import FAMILIES

# Families whose words have four places or more, and those with three.
RIGHTING = [squares for squares in FAMILIES if len(squares) > 1]
SHORT = [squares for squares in FAMILIES if len(squares) == 1]
FOUR = FAMILIES[8]


def changed(word, n, places, rng):
    """A word that differs from a word in just these places."""
    word = list(word)
    for place in places:
        word[place] = (word[place] + rng.randrange(1, n)) % n
    return word


class WordsTest(Case):
    def test_agreements(self):
        for one, other, right in (
                ((), (), []), ((0,), (0,), [0]), ((0,), (1,), []), ((0, 1, 2), (0, 1, 2), [0, 1, 2]),
                ((0, 1, 2, 3), (1, 1, 0, 3), [1, 3]), ((5, 0), (0, 5), []), ((2, 2, 2), (0, 0, 2), [2])):
            for first, second in ((one, other), (list(one), other), (one, list(other)), (list(other), list(one))):
                before = list(first), list(second)
                self.assertEqual(agreements(first, second), right)
                self.assertEqual((list(first), list(second)), before)
        found = agreements((0, 1), (0, 1))
        found.clear()
        self.assertEqual(agreements((0, 1), (0, 1)), [0, 1])

    def test_words_of_unlike_lengths(self):
        for one, other in (((), (0,)), ((0, 1), (0, 1, 2)), ([0, 1, 2], (0, 1)), ((0,) * 13, [0] * 14)):
            self.fault(InvalidQuestion, agreements, one, other)
            self.fault(InvalidQuestion, agreements, other, one)

    def test_words_of_a_code_agree_in_one_place_at_most(self):
        for squares in FAMILIES:
            for one, other in list(combinations(array_of(squares), 2))[::11]:
                self.assertLess(len(agreements(one, other)), 2)

    def compared(self, n, words):
        right = naive_codes.code_fault(words)
        for form in (words, tuple(words), [list(word) for word in words], tuple(list(word) for word in words)):
            before = copy.deepcopy(form)
            self.assertEqual(code_fault(n, form), right)
            self.assertEqual(form, before)
        self.assertEqual(right is None, array_fault(n, words) is None)
        return right

    def test_code_fault_of_codes(self):
        rng = random.Random(96)
        for squares in FAMILIES:
            words = array_of(squares)
            self.assertIsNone(self.compared(len(squares[0]), rng.sample(words, len(words))))
        for words in TWO_COLUMNS:
            self.assertIsNone(code_fault(words[-1][0] + 1, words))

    def test_code_fault_by_hand(self):
        self.assertEqual(code_fault(2, [(0, 0), (0, 1), (1, 0), (0, 1)]), (1, 3))
        self.assertEqual(code_fault(2, [(0, 0, 0), (1, 1, 1), (0, 1, 1), (0, 0, 1)]), (1, 2))
        # The first word that agrees with an earlier one, and of those the first.
        self.assertEqual(code_fault(2, [(0, 0, 0), (1, 1, 1), (1, 1, 0), (0, 0, 0)]), (1, 2))
        self.assertEqual(code_fault(2, [(0, 0, 0), (1, 1, 0), (0, 1, 0), (1, 1, 1)]), (0, 2))
        self.assertEqual(code_fault(2, [(0, 0)] * 4), (0, 1))
        self.assertIsNone(code_fault(1, [(0, 0, 0, 0)]))

    def test_code_fault_of_changed_codes(self):
        rng = random.Random(97)
        for squares in FAMILIES[2:]:
            n = len(squares[0])
            words = rng.sample(array_of(squares), n * n)
            for _ in range(4):
                one, other = rng.sample(range(n * n), 2)
                wrong = list(words)
                wrong[one] = tuple(changed(words[one], n, [rng.randrange(len(words[one]))], rng)) if n > 1 else words[one]
                self.compared(n, wrong)
                wrong[other] = words[one]
                self.compared(n, wrong)
        for _ in range(200):
            n, width = rng.choice([(2, 2), (2, 3), (2, 5), (3, 2), (3, 4)])
            self.compared(n, [tuple(rng.randrange(n) for _ in range(width)) for _ in range(n * n)])
        for words in product(product(range(2), repeat=2), repeat=4):
            self.compared(2, list(words))

    def test_code_fault_refuses_as_array_fault(self):
        good = array_of(FAMILIES[4])
        for order in ORDERS:
            for words in (TWO_COLUMNS[0], TWO_COLUMNS[1], []):
                self.fault(InvalidQuestion, code_fault, order, words)
        for words in ([], good[:-1], good + good[:1], None, [()] * 9, [(0,)] * 9, good[:-1] + [good[-1][:-1]],
                      [good[0] + (0,)] + good[1:], good[:-1] + [(0, 1, 2, 3)], [(0, 0, 0, -1)] + good[1:],
                      [(0, 0, 0, None)] + good[1:], good[:-1] + [5]):
            self.fault(InvalidQuestion, code_fault, 3, words)
        for order in (1, 2, 4, 9, 12):
            self.fault(InvalidQuestion, code_fault, order, good)


class ToldAgainTest(Case):
    def compared(self, squares, word):
        right = naive_codes.told_again(naive_codes.array(squares), word)
        for form in (list(word), tuple(word)):
            before = list(form)
            found = told_again(squares, form)
            self.assertEqual(found, right)
            self.assertEqual(list(form), before)
            self.assertIsInstance(found, (tuple, type(None)))
        return right

    def test_two_signs_left(self):
        rng = random.Random(98)
        for squares in FAMILIES:
            n, length = len(squares[0]), len(squares) + 2
            for places in rng.sample(list(combinations(range(length), 2)), min(6, length * (length - 1) // 2)):
                for _ in range(3):
                    word = [None] * length
                    for place in places:
                        word[place] = rng.randrange(n)
                    self.assertIsNotNone(self.compared(squares, word))

    def test_all_pairs_of_signs(self):
        for squares in (FAMILIES[2], FAMILIES[4]):
            n, length = len(squares[0]), len(squares) + 2
            for one, other in combinations(range(length), 2):
                for x, y in product(range(n), repeat=2):
                    word = [None] * length
                    word[one], word[other] = x, y
                    found = self.compared(squares, word)
                    self.assertEqual((found[one], found[other]), (x, y))

    def test_more_signs_left(self):
        rng = random.Random(99)
        seen = set()
        for squares in FAMILIES:
            n, code = len(squares[0]), array_of(squares)
            length = len(code[0])
            for _ in range(8):
                own = rng.choice(code)
                word = list(own)
                for place in rng.sample(range(length), rng.randrange(length - 1)):
                    word[place] = None
                self.assertEqual(self.compared(squares, word), own)
                left = [place for place in range(length) if word[place] is not None]
                if n > 1:
                    wrong = changed(word, n, rng.sample(left, 1), rng)
                    found = self.compared(squares, wrong)
                    seen.add((len(left) > 2, found is None))
        self.assertEqual(seen, {(True, True), (False, False)})

    def test_by_hand(self):
        squares = [((0, 1), (1, 0))]
        self.assertEqual(told_again(squares, [None, 1, 1]), (0, 1, 1))
        self.assertEqual(told_again(squares, (1, None, 1)), (1, 0, 1))
        self.assertEqual(told_again(squares, (1, 1, 0)), (1, 1, 0))
        self.assertIsNone(told_again(squares, (1, 1, 1)))
        self.assertEqual(told_again([((0,),)], (None, 0, 0)), (0, 0, 0))

    def test_wrong_words(self):
        for squares in FAMILIES:
            n, length = len(squares[0]), len(squares) + 2
            for word in (
                    [], [0], [0] * (length - 1), [0] * (length + 1), [None] * (length - 1) + [0, 0], [0] * 40,
                    [0] * (length - 1) + [n], [0] * (length - 1) + [-1], [n] + [None] * (length - 1), [10 ** 30] * length,
                    [None] * length, [0] + [None] * (length - 1), [None] * (length - 1) + [n - 1],
                    [None, -1, n] + [None] * (length - 3), [0] * (length - 1) + ["0"]):
                for form in (word, tuple(word)):
                    self.fault(InvalidQuestion, told_again, squares, form)

    def test_no_families(self):
        for squares, error in NO_FAMILIES:
            for word in ([None, 0, 0], [], [0, 0, 0, 0], [99] * 3, [None] * 3):
                self.fault(error, told_again, squares, word)


class RightedTest(Case):
    def compared(self, squares, word):
        right = naive_codes.righted(naive_codes.array(squares), word)
        for form in (list(word), tuple(word)):
            before = list(form)
            found = righted(squares, form)
            self.assertEqual(found, right)
            self.assertIsInstance(found, (tuple, type(None)))
            if right is None:
                self.fault(InvalidQuestion, wrong_place, squares, form)
            else:
                places = [place for place in range(len(word)) if word[place] != right[place]]
                self.assertEqual(wrong_place(squares, form), places[0] if places else None)
            self.assertEqual(list(form), before)
        return right

    def test_right_words_and_one_wrong_place(self):
        rng = random.Random(100)
        for squares in RIGHTING:
            n, code = len(squares[0]), array_of(squares)
            for own in rng.sample(code, min(5, len(code))):
                self.assertEqual(self.compared(squares, own), own)
                self.assertIsNone(wrong_place(squares, own))
                for place in range(len(own)) if n > 1 else ():
                    word = changed(own, n, [place], rng)
                    self.assertEqual(self.compared(squares, word), own)
                    self.assertEqual(wrong_place(squares, word), place)

    def test_more_wrong_places(self):
        rng = random.Random(101)
        found = set()
        for squares in RIGHTING:
            n, code = len(squares[0]), array_of(squares)
            for _ in range(8 if n > 1 else 0):
                own = rng.choice(code)
                count = rng.choice([2, 2, 3])
                word = changed(own, n, rng.sample(range(len(own)), count), rng)
                right = self.compared(squares, word)
                self.assertNotEqual(right, own)
                found.add(right is None)
        self.assertEqual(found, {True, False})

    def test_all_words_of_a_small_family(self):
        squares = FAMILIES[4]
        for word in product(range(3), repeat=4):
            # Of the 81 words each of the 9 of the code rights itself and 8 others.
            self.assertIsNotNone(self.compared(squares, word))
        for word in product(range(4), repeat=5):
            if sum(word) % 5 == 0:
                self.compared(FOUR, word)

    def test_by_hand(self):
        squares = FAMILIES[4]
        self.assertEqual(righted(squares, (0, 0, 0, 2)), (0, 0, 0, 0))
        self.assertEqual(wrong_place(squares, [0, 0, 0, 2]), 3)
        self.assertEqual(wrong_place(squares, [1, 0, 0, 0]), 0)
        self.assertIsNone(wrong_place(squares, (0, 0, 0, 0)))
        self.assertEqual(righted([((0,),)] * 2, [0, 0, 0, 0]), (0, 0, 0, 0))
        self.assertIsNone(wrong_place([((0,),)] * 3, [0] * 5))

    def test_three_places_and_fewer(self):
        for squares in SHORT:
            for word in (array_of(squares)[0], array_of(squares)[-1], [0, 0, 0]):
                self.fault(InvalidQuestion, righted, squares, word)
                self.fault(InvalidQuestion, wrong_place, squares, word)
        # Several words of such a code may differ in one place.
        word = (0, 0, 1)
        near = [own for own in array_of([((0, 1), (1, 0))]) if len(agreements(own, word)) > 1]
        self.assertEqual(len(near), 3)

    def test_wrong_words(self):
        for squares in RIGHTING + SHORT:
            n, length = len(squares[0]), len(squares) + 2
            for word in (
                    [], [0], [0] * (length - 1), [0] * (length + 1), [0] * 40, [0] * (length - 1) + [n],
                    [0] * (length - 1) + [-1], [n] + [0] * (length - 1), [10 ** 30] * length, [None] * length,
                    [None] + [0] * (length - 1), [0] * (length - 1) + [None], [0] * (length - 1) + ["0"]):
                for form in (word, tuple(word)):
                    self.fault(InvalidQuestion, righted, squares, form)
                    self.fault(InvalidQuestion, wrong_place, squares, form)

    def test_no_families(self):
        for squares, error in NO_FAMILIES:
            for word in ([0, 0, 0], [], [0, 0, 0, 0], [99] * 3, [None] * 3):
                self.fault(error, righted, squares, word)
                self.fault(error, wrong_place, squares, word)

    def test_squares_are_not_changed(self):
        squares = [[list(row) for row in rows] for rows in FOUR]
        before = copy.deepcopy(squares)
        for function, word in ((told_again, [None, None, 0, 1, None]), (righted, [0, 0, 0, 0, 1]),
                               (wrong_place, [0, 0, 0, 0, 1])):
            function(squares, word)
            function(tuple(squares), word)
        self.assertEqual(squares, before)

    def test_interface(self):
        for name in ("agreements", "code_fault", "told_again", "righted", "wrong_place"):
            self.assertEqual(getattr(module, name).__module__, "matedsquares.codes")


if __name__ == "__main__":
    unittest.main()
