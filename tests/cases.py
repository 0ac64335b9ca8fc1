"""What the tests of several files do."""

import unittest

from matedsquares.errors import MatedsquaresError


class Case(unittest.TestCase):
    def fault(self, error, function, *arguments, **limits):
        """See that a call raises just this error, and return it."""
        with self.assertRaises(error) as caught:
            function(*arguments, **limits)
        self.assertIs(type(caught.exception), error)
        self.assertIsInstance(caught.exception, MatedsquaresError)
        self.assertIsInstance(caught.exception, ValueError)
        return caught.exception
