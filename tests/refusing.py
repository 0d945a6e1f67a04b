"""Tests that something is refused with an error and with what the error tells."""

import unittest


class RefusingTest(unittest.TestCase):
    def refused(self, error, told, function, *values, **named):
        """A call raises an error of just this class, with the attributes of the dict told."""
        with self.assertRaises(error) as caught:
            function(*values, **named)
        self.assertIs(caught.exception.__class__, error)
        self.assertEqual(list(vars(caught.exception)), list(told))
        for name, value in told.items():
            self.assertIs(getattr(caught.exception, name).__class__, value.__class__)
            self.assertEqual(getattr(caught.exception, name), value)
