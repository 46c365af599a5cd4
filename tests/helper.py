"""What the tests of all modules share."""

import unittest


def is_same(first, second):
    """Equal and of one kind, so that True is not taken for 1."""
    return first is second or (type(first) is type(second) and first == second)


class ParcelCase(unittest.TestCase):
    """A test case that knows the errors of the program."""

    def assert_told(self, kind, attributes, call, *args, **named):
        """The call raises just this kind of error, with just these attributes."""
        with self.assertRaises(kind) as caught:
            call(*args, **named)
        error = caught.exception
        self.assertIs(type(error), kind)
        self.assertEqual(sorted(vars(error)), sorted(attributes))
        for name, value in attributes.items():
            self.assertTrue(is_same(getattr(error, name), value), (name, getattr(error, name), value))

    def assert_same(self, found, wanted):
        """Equal and of one kind."""
        self.assertTrue(is_same(found, wanted), (found, wanted))
