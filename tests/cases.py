"""Assertions that the test files share."""

import unittest
from time import perf_counter


class ProgramCase(unittest.TestCase):
    def assert_raises_with(self, error, value, call, *arguments):
        """A call raises exactly this error, with this value."""
        with self.assertRaises(error) as caught:
            call(*arguments)
        self.assertIs(type(caught.exception), error)
        self.assertEqual(caught.exception.value, value)
        self.assertIs(type(caught.exception.value), type(value))

    def assert_ends_within(self, seconds, call):
        """A call ends in this time, in one of three attempts, as the machine may be busy; return its result."""
        times = []
        for _ in range(3):
            start = perf_counter()
            result = call()
            times.append(perf_counter() - start)
            if times[-1] <= seconds:
                return result
        self.fail(f"{times} are more than {seconds} seconds")
