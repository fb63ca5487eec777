"""A test case that looks at the fields of errors, too."""

import unittest


class RaisesCase(unittest.TestCase):
    def refused(self, kind, field, value, call, *args):
        """That a call raises an error of just this class, with this value (of the same kinds) in its field."""
        with self.assertRaises(kind) as caught:
            call(*args)
        self.assertIs(type(caught.exception), kind)
        self.assertEqual(repr(getattr(caught.exception, field)), repr(value), args)

    def held(self, answer, awaited):
        """That an answer is a truth, and the one that is awaited."""
        self.assertIs(answer, awaited)
