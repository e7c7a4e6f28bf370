"""What the test cases of the project ask in common."""

import copy
import unittest

from loopcuts.codes import Code
from loopcuts.errors import LoopError, NoCut
from tests.made import few_kinds, known_codes, several_door_codes, small_codes


def asked(call):
    """Ask for something, and return it, or False if it is refused."""
    try:
        return call()
    except (LoopError, NoCut):
        return False


class Asks(unittest.TestCase):

    def refused(self, error, field, call, *args, **more):
        """Ask that the call raises just that error, and return its field."""
        with self.assertRaises(error) as caught:
            call(*args, **more)
        self.assertIs(caught.exception.__class__, error)
        return getattr(caught.exception, field)

    def refused_with(self, error, field, worth, call, *args, **more):
        """Ask that the call raises just that error, with a field of that worth and kind."""
        found = self.refused(error, field, call, *args, **more)
        self.assertIs(found.__class__, worth.__class__)
        self.assertEqual(found, worth)

    def refused_as_is(self, error, field, value, call, *args, **more):
        """Ask that the call raises just that error, with the very value as its field."""
        self.assertIs(self.refused(error, field, call, *args, **more), value)

    def tell_equal(self, answers, calls_with):
        """Ask that equal codes are answered equally, whatever was asked with other values in between."""
        codes = known_codes() + several_door_codes() + small_codes(20)
        first = [answers(code) for code in codes]
        for value in few_kinds():
            for call in calls_with(value):
                asked(call)
        self.assertEqual([answers(code) for code in codes[::-1]], first[::-1])
        for code, told in zip(codes, first):
            self.assertEqual(answers(Code(code.places, code.door, list(code.jumps))), told)

    def leave_codes(self, answers):
        """Ask that codes stay as they are, whatever is asked of them."""
        for code in known_codes() + several_door_codes():
            before = copy.deepcopy((code.places, code.door, code.jumps))
            answers(code)
            self.assertEqual((code.places, code.door, code.jumps), before)
            self.assertEqual(set(vars(code)), {"places", "door", "jumps"})
