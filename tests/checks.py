"""What several tests need."""

import unittest

HUGE = 10 ** 60 - 1


class Case(unittest.TestCase):
    """A test case that can check an error together with its attributes."""

    def raises(self, kind, told, call, *args, **more):
        """The call raises exactly this error with exactly these attributes, which are told as a dict."""
        with self.assertRaises(kind) as caught:
            call(*args, **more)
        self.assertIs(caught.exception.__class__, kind)
        self.assertEqual(vars(caught.exception), told)
        for name in told:
            self.assertIs(vars(caught.exception)[name].__class__, told[name].__class__)
        return caught.exception


def spent(generator):
    """Iterates over a generator to its end."""
    return list(generator)
