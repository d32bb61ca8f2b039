"""Section "Errors": the classes, their bases and their fields (2.5)."""

import inspect
import unittest

from carrynet import errors
from tests.helpers import not_integers

FIELDS_OF_CARRY_ERRORS = {
    "InvalidNet": ("part", "index"),
    "InvalidPhases": ("index",),
    "InvalidTicks": ("index",),
    "InvalidWalk": ("index",),
    "InvalidCounter": ("counter",),
    "InvalidTimes": ("times",),
    "InvalidReading": ("number",),
    "InvalidAnswer": ("part",),
    "TooLarge": ("limit",),
    "InvalidPrices": ("index",),
    "InvalidDrive": ("part",),
    "InvalidText": ("word",),
    "NotPositive": ("index",),
}
FIELDS_OF_STATE_ERRORS = {"NotAnInput": ("counter",), "NothingToUndo": ("action",)}
FIELDS = {**FIELDS_OF_CARRY_ERRORS, **FIELDS_OF_STATE_ERRORS}


def made(name):
    return getattr(errors, name)(*range(len(FIELDS[name])))


class Bases(unittest.TestCase):
    def test_the_two_bases(self):
        self.assertEqual(errors.CarryError.__bases__, (ValueError,))
        self.assertEqual(errors.CarryStateError.__bases__, (RuntimeError,))

    def test_each_class_is_a_direct_subclass_of_its_base(self):
        for name in FIELDS_OF_CARRY_ERRORS:
            self.assertEqual(getattr(errors, name).__bases__, (errors.CarryError,), name)
        for name in FIELDS_OF_STATE_ERRORS:
            self.assertEqual(getattr(errors, name).__bases__, (errors.CarryStateError,), name)

    def test_no_instance_of_any_other_class(self):
        for name in FIELDS:
            error = made(name)
            of_carry = name in FIELDS_OF_CARRY_ERRORS
            self.assertEqual(isinstance(error, errors.CarryError), of_carry, name)
            self.assertEqual(isinstance(error, ValueError), of_carry, name)
            self.assertEqual(isinstance(error, errors.CarryStateError), not of_carry, name)
            self.assertEqual(isinstance(error, RuntimeError), not of_carry, name)
            for other in FIELDS:
                self.assertEqual(isinstance(error, getattr(errors, other)), other == name, (name, other))

    def test_there_are_no_further_classes(self):
        names = [name for name, value in vars(errors).items() if inspect.isclass(value)]
        self.assertEqual(sorted(names), sorted([*FIELDS, "CarryError", "CarryStateError"]))
        for name in names:
            self.assertEqual(getattr(errors, name).__module__, "carrynet.errors")


class Fields(unittest.TestCase):
    def test_names_of_the_fields(self):
        for name, fields in FIELDS.items():
            self.assertEqual(list(vars(made(name))), list(fields), name)

    def test_fields_hold_the_very_values_that_were_passed(self):
        for name, fields in FIELDS.items():
            for value in [*not_integers(), 10 ** 999, 5]:
                first = [value] * len(fields)
                for passed in (first, [*first[1:], "last"], ["first", *first[1:]]):
                    error = getattr(errors, name)(*passed)
                    for field, item in zip(fields, passed):
                        self.assertIs(getattr(error, field), item, name)

    def test_one_argument_for_each_field(self):
        for name, fields in FIELDS.items():
            for many in (len(fields) - 1, len(fields) + 1):
                with self.assertRaises(TypeError, msg=name):
                    getattr(errors, name)(*range(many))

    def test_they_can_be_raised_and_caught_by_their_bases(self):
        for name in FIELDS_OF_CARRY_ERRORS:
            with self.assertRaises(errors.CarryError):
                raise made(name)
        for name in FIELDS_OF_STATE_ERRORS:
            with self.assertRaises(errors.CarryStateError):
                raise made(name)


if __name__ == "__main__":
    unittest.main()
