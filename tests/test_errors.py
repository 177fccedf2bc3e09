"""Section 18: the errors."""

import unittest

from fewgoings import errors
from fewgoings.programs import Program
from tests.samples import NO_STRINGS, TURN

NAMES = (
    "BadProgram BadText TooMany OtherSymbols BadPass BadWriter BadSymbol Closed Barred BadOutcome "
    "BadLength BadWord BadNumber BadFar NoLetter BadPosition NoIdentity NothingToUndo NothingToRedo "
    "NoTrial BadJournal BadLine"
).split()


class ErrorsTest(unittest.TestCase):
    def test_pass_error_is_directly_below_value_error(self):
        self.assertEqual(errors.PassError.__bases__, (ValueError,))
        self.assertEqual(errors.PassError(7).value, 7)

    def test_there_are_these_twenty_two_and_no_others(self):
        self.assertEqual(len(NAMES), 22)
        found = [name for name, thing in vars(errors).items() if isinstance(thing, type)]
        self.assertEqual(sorted(found), sorted(["PassError", *NAMES]))

    def test_each_is_directly_below_pass_error(self):
        for name in NAMES:
            with self.subTest(name):
                self.assertEqual(getattr(errors, name).__bases__, (errors.PassError,))
                self.assertEqual(getattr(errors, name).__module__, "fewgoings.errors")

    def test_each_keeps_any_value_by_position_and_by_name(self):
        for name in ["PassError", *NAMES]:
            for value in ["", "abc", "a\nb", "%s", *NO_STRINGS, Program(TURN)]:
                self.assertIs(getattr(errors, name)(value).value, value)
                self.assertIs(getattr(errors, name)(value=value).value, value)

    def test_each_takes_exactly_one_argument(self):
        for name in ["PassError", *NAMES]:
            with self.assertRaises(TypeError):
                getattr(errors, name)()
            with self.assertRaises(TypeError):
                getattr(errors, name)(1, 2)

    def test_each_is_caught_as_itself_as_pass_error_and_as_value_error(self):
        for name in NAMES:
            for kind in (getattr(errors, name), errors.PassError, ValueError):
                with self.assertRaises(kind) as caught:
                    raise getattr(errors, name)([1])
                self.assertEqual(caught.exception.value, [1])
