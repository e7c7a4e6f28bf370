"""Promise 2, loopcuts/errors.py: the exceptions and their fields."""

from loopcuts import errors
from loopcuts.errors import (BadCode, BadLoop, BadLot, BadNumber, BadPaper, BadRun, BadText,
                             LoopError, NoCut, SeveralDoors)
from tests.asks import Asks
from tests.samples import every_kind

REFUSALS = [(BadCode, "place"), (BadLot, "value"), (BadLoop, "value"), (BadRun, "value"),
            (BadNumber, "value"), (BadPaper, "place"), (BadText, "line")]
LOOKUPS = [(SeveralDoors, "paper"), (NoCut, "loop")]


class Families(Asks):

    def test_loop_error_is_a_value_error(self):
        self.assertEqual(LoopError.__bases__, (ValueError,))

    def test_refusals_are_direct_subclasses_of_loop_error(self):
        for error, _ in REFUSALS:
            self.assertEqual(error.__bases__, (LoopError,))

    def test_lookups_are_direct_subclasses_of_lookup_error(self):
        for error, _ in LOOKUPS:
            self.assertEqual(error.__bases__, (LookupError,))

    def test_each_is_defined_in_errors(self):
        for error in [LoopError] + [error for error, _ in REFUSALS + LOOKUPS]:
            self.assertEqual(error.__module__, "loopcuts.errors")
            self.assertIs(getattr(errors, error.__name__), error)

    def test_a_refusal_is_caught_as_loop_error_and_value_error(self):
        for error, _ in REFUSALS:
            for family in (LoopError, ValueError):
                with self.assertRaises(family):
                    raise error(None)

    def test_a_lookup_is_caught_as_lookup_error_only(self):
        for error, _ in LOOKUPS:
            with self.assertRaises(LookupError):
                raise error(None)
            self.assertNotIsInstance(error(None), ValueError)


class Fields(Asks):

    def test_loop_error_can_be_made_without_fields(self):
        with self.assertRaises(LoopError) as caught:
            raise LoopError()
        self.assertIs(caught.exception.__class__, LoopError)
        with self.assertRaises(LoopError):
            raise LoopError

    def test_fields_by_position(self):
        for error, field in REFUSALS + LOOKUPS:
            for value in every_kind() + [LoopError, LoopError(), 10 ** 9999]:
                self.assertIs(getattr(error(value), field), value)

    def test_fields_by_name(self):
        for error, field in REFUSALS + LOOKUPS:
            for value in every_kind() + [LoopError, LoopError(), 10 ** 9999]:
                self.assertIs(getattr(error(**{field: value}), field), value)

    def test_each_takes_just_its_field(self):
        for error, _ in REFUSALS + LOOKUPS:
            with self.assertRaises(TypeError):
                error()
            with self.assertRaises(TypeError):
                error(1, 2)
            with self.assertRaises(TypeError):
                error(unnamed=1)

    def test_each_can_be_shown_whatever_its_field(self):
        for error, _ in REFUSALS + LOOKUPS:
            for value in [None, 10 ** 9999, b"a", "a\n"]:
                self.assertIsInstance(str(error(value)), str)
                self.assertIsInstance(repr(error(value)), str)

    def test_a_field_that_is_a_list_stays_as_it_is(self):
        for error, field in REFUSALS + LOOKUPS:
            value = [[1], 2]
            self.assertIs(getattr(error(value), field), value)
            self.assertEqual(value, [[1], 2])
