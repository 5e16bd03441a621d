"""What the test cases of several files share."""

import unittest

from tests.samples import caught, odd_values, same


class Case(unittest.TestCase):

    def refused(self, error, call, *arguments, **kept):
        """Asserts that the call raises just this error, with just these attributes."""
        found = caught(call, *arguments)
        self.assertIs(type(found), error, (found, arguments))
        for word, value in kept.items():
            self.assertTrue(same(getattr(found, word), value), (word, getattr(found, word), value))

    def refuses_odd(self, error, call, is_fine, keeps=None):
        """Asserts that the call takes just the odd values that are fine, and refuses all others."""
        for value in odd_values():
            with self.subTest(value=repr(value)[:80]):
                if is_fine(value):
                    self.assertIsNone(caught(call, value))
                else:
                    self.refused(error, call, value, **({keeps: value} if keeps else {}))

    def judged(self, call, *arguments):
        """What a call returns that returns True or False and nothing else."""
        answer = call(*arguments)
        self.assertIs(type(answer), bool)
        return answer
