"""The errors: their names, base classes and attributes."""

import inspect
import unittest

from lastside import errors
from tests.case import Case

ATTRIBUTES = {
    "InvalidTree": ["text"], "InvalidFlags": ["flags"], "InvalidSlot": ["slot"], "InvalidFork": ["fork"],
    "InvalidSide": ["side"], "InvalidLine": ["index"], "InvalidRow": ["index"], "InvalidNumber": ["number"],
    "InvalidEntry": ["entry"], "InvalidText": ["index"], "InvalidRule": ["rule"], "InvalidItem": ["index"],
    "InvalidClaim": ["claim"], "InvalidDeed": ["index"], "InvalidSetting": ["name"],
    "BrokenRun": ["index", "fork"], "TooMany": ["most"], "Contradiction": ["claim"],
}
REFUSALS = {"Guarded": ["entry"], "Resident": ["entry"], "NothingLeft": ["number"]}


class ErrorsTest(Case):
    def test_the_list_is_complete(self):
        names = {name for name, value in vars(errors).items() if inspect.isclass(value)}
        self.assertEqual(names, {"CacheError", "Refused"} | set(ATTRIBUTES) | set(REFUSALS))

    def test_base_classes(self):
        self.assertEqual(errors.CacheError.__bases__, (ValueError,))
        self.assertEqual(errors.Refused.__bases__, (errors.CacheError,))
        for name in ATTRIBUTES:
            self.assertEqual(getattr(errors, name).__bases__, (errors.CacheError,), name)
        for name in REFUSALS:
            self.assertEqual(getattr(errors, name).__bases__, (errors.Refused,), name)

    def test_attributes_are_positional_parameters_in_order(self):
        for name, attributes in {**ATTRIBUTES, **REFUSALS}.items():
            made = getattr(errors, name)
            self.assertEqual(list(inspect.signature(made).parameters), attributes, name)
            values = [["a", number] for number, _ in enumerate(attributes)]
            error = made(*values)
            self.assertEqual(sorted(vars(error)), sorted(attributes))
            for attribute, value in zip(attributes, values):
                self.assertIs(getattr(error, attribute), value)

    def test_the_base_classes_have_no_attributes(self):
        self.assertEqual(vars(errors.CacheError()), {})
        self.assertEqual(vars(errors.Refused()), {})

    def test_each_can_be_caught_as_its_bases(self):
        for name in ATTRIBUTES:
            values = [0 for _ in ATTRIBUTES[name]]
            with self.assertRaises(ValueError):
                raise getattr(errors, name)(*values)
        for name in REFUSALS:
            with self.assertRaises(errors.Refused):
                raise getattr(errors, name)(0)


if __name__ == "__main__":
    unittest.main()
