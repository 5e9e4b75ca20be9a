"""Point 4: the errors and their attributes."""

import inspect
import unittest

from onwardasks import errors
from onwardasks.errors import AskError, NoRow, Refused
from tests.samples import DICTS, LISTS, ODD

PARAMETERS = {
    "BadKind": ["part"], "BadHouse": ["index"], "BadGraph": ["index"], "BadPanel": ["place"],
    "BadRow": ["place"], "BadLink": ["link"], "NoKind": ["kind"], "NoName": ["name"], "NoThing": ["index"],
    "NoLink": ["link"], "NoPath": ["index"], "NoRow": [], "NoRule": ["index"], "NoText": ["line"],
    "NotLeast": ["lot"], "TooMany": ["many"], "Unlike": ["kind"], "Bare": ["column"],
    "Refused": ["name", "route"], "Endless": ["name"],
}
TOLD_OF_ARGUMENTS = ["BadLink", "NoKind", "NoName", "NoThing", "NoLink"]


class TestErrors(unittest.TestCase):
    def test_there_are_exactly_these_errors(self):
        found = [name for name, value in vars(errors).items() if inspect.isclass(value)]
        self.assertEqual(sorted(found), sorted(["AskError", *PARAMETERS]))
        self.assertEqual(len(PARAMETERS), 20)

    def test_ask_error_is_a_value_error(self):
        self.assertEqual(AskError.__bases__, (ValueError,))

    def test_each_error_is_a_direct_subclass_of_ask_error(self):
        for name in PARAMETERS:
            self.assertEqual(getattr(errors, name).__bases__, (AskError,), name)

    def test_no_error_is_a_subclass_of_another_one(self):
        for name in PARAMETERS:
            for other in PARAMETERS:
                if name != other:
                    self.assertFalse(issubclass(getattr(errors, name), getattr(errors, other)))

    def test_an_error_is_caught_as_ask_error_and_as_value_error(self):
        for name, parameters in PARAMETERS.items():
            for caught in (AskError, ValueError, getattr(errors, name)):
                with self.assertRaises(caught):
                    raise getattr(errors, name)(*["to" for _ in parameters])

    def test_what_is_the_argument(self):
        for name, parameters in PARAMETERS.items():
            if len(parameters) == 1:
                for what in (0, -1, 7, "", "to", ("a", "b")):
                    self.assertEqual(getattr(errors, name)(what).what, what)
                    self.assertEqual(getattr(errors, name)(**{parameters[0]: what}).what, what)

    def test_what_is_the_very_argument_whatever_it_is(self):
        for name in TOLD_OF_ARGUMENTS:
            for what in ODD + LISTS + DICTS:
                self.assertIs(getattr(errors, name)(what).what, what)

    def test_only_no_row_has_no_attribute_what(self):
        self.assertFalse(hasattr(NoRow(), "what"))
        self.assertFalse(hasattr(NoRow(), "route"))

    def test_only_refused_has_the_attribute_route(self):
        route = ((0, "key"), (1, ""))
        self.assertEqual(Refused("key", route).what, "key")
        self.assertEqual(Refused("key", route).route, route)
        self.assertEqual(Refused(name="key", route=route).route, route)
        for name, parameters in PARAMETERS.items():
            if len(parameters) == 1:
                self.assertFalse(hasattr(getattr(errors, name)("to"), "route"), name)

    def test_each_error_has_a_message(self):
        for name, parameters in PARAMETERS.items():
            self.assertIn(" ", str(getattr(errors, name)(*["to" for _ in parameters])))


if __name__ == "__main__":
    unittest.main()
