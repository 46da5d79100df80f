"""Assertions that the test files share."""

import unittest


class ProgramCase(unittest.TestCase):
    def assert_raises_with(self, error, value, call, *arguments):
        """A call raises exactly this error, with this value."""
        with self.assertRaises(error) as caught:
            call(*arguments)
        self.assertIs(type(caught.exception), error)
        self.assertEqual(caught.exception.value, value)
        self.assertIs(type(caught.exception.value), type(value))
