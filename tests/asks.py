"""What the test cases of the project ask in common."""

import unittest


class Asks(unittest.TestCase):

    def refused(self, error, field, call, *args, **more):
        """Ask that the call raises just that error, and return its field."""
        with self.assertRaises(error) as caught:
            call(*args, **more)
        self.assertIs(caught.exception.__class__, error)
        return getattr(caught.exception, field)

    def refused_with(self, error, field, worth, call, *args, **more):
        """Ask that the call raises just that error, with a field of that worth and kind."""
        found = self.refused(error, field, call, *args, **more)
        self.assertIs(found.__class__, worth.__class__)
        self.assertEqual(found, worth)

    def refused_as_is(self, error, field, value, call, *args, **more):
        """Ask that the call raises just that error, with the very value as its field."""
        self.assertIs(self.refused(error, field, call, *args, **more), value)
