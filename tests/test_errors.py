"""The interface section keptlast/errors.py."""

import inspect
import unittest

from keptlast import errors
from support import Odd

BASES = {
    "FormError": ValueError,
    "MissingError": LookupError,
    "StateError": RuntimeError,
    "AmountError": ArithmeticError,
}
LISTED = {
    "FormError": {
        "InvalidAmount": ["value"], "InvalidName": ["value"], "InvalidWeights": ["key"],
        "InvalidSide": ["side", "position"], "InvalidWays": ["position"], "InvalidNumbers": ["field"],
        "InvalidRule": ["value"], "InvalidFields": ["position"], "InvalidRules": ["name"],
        "InvalidForm": ["value"], "InvalidSet": ["position"], "InvalidLot": ["position"],
        "InvalidRow": ["position"], "InvalidFacts": ["position"], "InvalidCount": ["value"],
        "InvalidEdits": ["position"], "InvalidText": ["line"], "InvalidClaim": ["value"],
        "InvalidLine": ["value"], "Barred": ["rule_set"], "OtherFields": ["field"],
        "OtherSequence": ["position"], "Contradicted": ["field"], "NotWeb": ["name"],
        "NotTotals": ["rule"], "LooseRule": ["rule"], "TooMany": ["kind", "limit"],
    },
    "MissingError": {"UnknownField": ["value"], "UnknownRule": ["value"]},
    "StateError": {
        "Never": ["rule_set"], "Refused": ["field"], "CommandFailed": ["position"],
        "NameTaken": ["name"], "NothingToUndo": [],
    },
    "AmountError": {"DividedByZero": ["rule"]},
}
ANY_VALUES = [
    None, True, 0, -1, 10 ** 5000, "", "a", "two\nlines", b"x", (), ("a", "b"), [], [[1]], {}, {"a": 1},
    {1}, object(), int, Odd(), ValueError("x"),
]


def each_class():
    for base, classes in LISTED.items():
        for name, parameters in classes.items():
            yield base, name, parameters


class TestErrors(unittest.TestCase):
    def test_there_are_just_the_listed_classes(self):
        found = {name for name, value in vars(errors).items() if inspect.isclass(value)}
        self.assertEqual(found, set(BASES) | {name for _, name, _ in each_class()})

    def test_all_are_defined_in_this_file(self):
        for name in list(BASES) + [name for _, name, _ in each_class()]:
            self.assertEqual(getattr(errors, name).__module__, "keptlast.errors")

    def test_first_classes_are_of_the_builtin_ones_only(self):
        for name, builtin in BASES.items():
            with self.subTest(name):
                self.assertEqual(getattr(errors, name).__bases__, (builtin,))

    def test_classes_are_of_the_class_above_them_only(self):
        for base, name, _ in each_class():
            with self.subTest(name):
                self.assertEqual(getattr(errors, name).__bases__, (getattr(errors, base),))

    def test_parameters_have_the_listed_names(self):
        for _, name, parameters in each_class():
            if parameters:
                with self.subTest(name):
                    found = list(inspect.signature(getattr(errors, name)).parameters)
                    self.assertEqual(found, parameters)

    def test_made_by_position_with_any_values(self):
        for _, name, parameters in each_class():
            for value in ANY_VALUES:
                values = [value, "last"][:len(parameters)]
                with self.subTest(name, kind=type(value)):
                    self.assert_attributes(getattr(errors, name)(*values), parameters, values)

    def test_made_by_names_with_any_values(self):
        for _, name, parameters in each_class():
            for value in ANY_VALUES:
                values = ["first", value][-len(parameters):] if parameters else []
                # The other way round: the sequence of the names has no effect.
                named = dict(reversed(list(zip(parameters, values))))
                with self.subTest(name, kind=type(value)):
                    self.assert_attributes(getattr(errors, name)(**named), parameters, values)

    def assert_attributes(self, error, parameters, values):
        self.assertEqual(sorted(vars(error)), sorted(parameters))
        for parameter, value in zip(parameters, values):
            self.assertIs(getattr(error, parameter), value)

    def test_missing_values_are_not_made_up(self):
        for _, name, parameters in each_class():
            if parameters:
                with self.subTest(name), self.assertRaises(TypeError):
                    getattr(errors, name)(*[0] * (len(parameters) - 1))

    def test_raised_errors_are_caught_by_the_classes_above(self):
        for base, name, parameters in each_class():
            made = getattr(errors, name)(*parameters)
            for above in [getattr(errors, name), getattr(errors, base), BASES[base], Exception]:
                with self.subTest(name, above=above), self.assertRaises(above) as caught:
                    raise made
                self.assertIs(caught.exception, made)

    def test_raised_errors_are_not_caught_by_other_classes(self):
        for base, name, parameters in each_class():
            for other_base, other, _ in each_class():
                if other != name:
                    self.assertFalse(issubclass(getattr(errors, name), getattr(errors, other)))
                if other_base != base:
                    self.assertFalse(issubclass(getattr(errors, name), getattr(errors, other_base)))
                    self.assertFalse(issubclass(getattr(errors, name), BASES[other_base]))

    def test_first_classes_can_be_raised_and_caught(self):
        for name, builtin in BASES.items():
            with self.subTest(name), self.assertRaises(builtin):
                raise getattr(errors, name)()
