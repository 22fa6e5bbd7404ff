"""Point 2 and the interface of errors."""

import inspect
import unittest

from dicewins import errors
from dicewins.errors import DiceError
from helping import DiceTest

ATTRIBUTES = {
    "BadNumber": ("name",),
    "BadDie": ("place",),
    "BadCup": ("place",),
    "BadTable": ("place",),
    "BadWeights": ("place",),
    "BadWord": ("place",),
    "NotDeck": ("rank",),
    "OtherSize": ("first", "second"),
    "BadSet": ("place",),
    "BadKind": ("die",),
    "BadWeb": ("lot",),
    "TooMany": ("name",),
    "TrialEnded": (),
    "NothingBack": (),
    "BadText": ("line",),
}


class ErrorTest(DiceTest):
    def test_attributes_by_position(self):
        for name, attributes in ATTRIBUTES.items():
            values = [f"value {number}" for number in range(len(attributes))]
            error = getattr(errors, name)(*values)
            self.assertEqual(vars(error), dict(zip(attributes, values)), name)

    def test_wrong_number_of_attributes(self):
        for name, attributes in ATTRIBUTES.items():
            if attributes:
                with self.assertRaises(TypeError):
                    getattr(errors, name)(*([1] * (len(attributes) + 1)))

    def test_all_are_below_the_base_and_none_below_another(self):
        self.assertEqual(DiceError.__bases__, (ValueError,))
        for name in ATTRIBUTES:
            self.assertEqual(getattr(errors, name).__bases__, (DiceError,), name)

    def test_no_error_is_missing_and_none_is_more(self):
        found = {name for name, value in vars(errors).items() if inspect.isclass(value)}
        self.assertEqual(found, set(ATTRIBUTES) | {"DiceError"})

    def test_defined_in_errors(self):
        for name in ATTRIBUTES:
            self.assertEqual(getattr(errors, name).__module__, "dicewins.errors")


if __name__ == "__main__":
    unittest.main()
