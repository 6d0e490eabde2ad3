"""[0.2]: the error classes of the interface."""

import unittest

from allshelves import errors
from allshelves.errors import BadText, BadWord, Down, NotShown, ShelfError, TooLate
from helpers import Checks, values_of_any_kind

WITH_THING = (
    "BadWord", "BadNumber", "BadProtocol", "BadStanding", "BadStep", "BadSteps", "BadPlace",
    "BadRow", "BadRows", "BadDevice", "BadLost", "BadPages", "BadLocks", "BadDeal", "BadKind",
    "BadWeb", "BadHouse", "BadWorth", "BadBool", "BadEnd", "BadStore", "BadEvent", "BadHistory",
    "BadDisks", "BadWish",
)
WITH_OTHERS = (("BadText", "at"), ("TooLate", "deal"), ("NotShown", "wish"))
WITH_NOTHING = ("Down", "Up", "NothingToUndo", "NothingToRedo")
WITH_ONE = tuple((name, "thing") for name in WITH_THING) + WITH_OTHERS


class Errors(Checks):
    def test_base_classes(self):
        self.assertEqual(ShelfError.__bases__, (Exception,))
        for name in [name for name, _ in WITH_ONE] + list(WITH_NOTHING):
            self.assertEqual(getattr(errors, name).__bases__, (ShelfError,), name)

    def test_defined_there_and_no_others(self):
        own = [name for name, value in vars(errors).items() if isinstance(value, type)]
        self.assertEqual(sorted(own), sorted([name for name, _ in WITH_ONE] + list(WITH_NOTHING) + ["ShelfError"]))
        for name in own:
            self.assertEqual(getattr(errors, name).__module__, "allshelves.errors")

    def test_parameters_are_attributes(self):
        for name, parameter in WITH_ONE:
            for thing in values_of_any_kind():
                made = getattr(errors, name)
                for error in (made(thing), made(**{parameter: thing})):
                    self.assertEqual(list(vars(error)), [parameter])
                    self.assertIs(getattr(error, parameter), thing)

    def test_without_parameters(self):
        for name in WITH_NOTHING:
            self.assertEqual(vars(getattr(errors, name)()), {})

    def test_missing_parameters(self):
        for made in (BadWord, BadText, TooLate, NotShown):
            with self.assertRaises(TypeError):
                made()

    def test_caught_by_the_base_class_alone(self):
        for error in (BadWord("a"), BadText(1), Down()):
            with self.assertRaises(ShelfError):
                raise error
            self.assertNotIsInstance(error, (ValueError, LookupError, TypeError))


if __name__ == "__main__":
    unittest.main()
