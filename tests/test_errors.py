"""The refusals' classes."""

import unittest

from tests.helper import REFUSALS
from turnline.errors import TurnError


class Refusals(unittest.TestCase):
    def test_turn_error_stands_right_under_value_error(self):
        self.assertEqual(TurnError.__bases__, (ValueError,))

    def test_each_refusal_stands_right_under_turn_error(self):
        for kind in REFUSALS:
            self.assertEqual(kind.__bases__, (TurnError,), kind)

    def test_names(self):
        names = ["NoLine", "NoTrain", "NoMove", "NoPiece", "TooMany", "NoText", "NoRow"]
        self.assertEqual([kind.__name__ for kind in REFUSALS], names)
        self.assertEqual({kind.__module__ for kind in REFUSALS}, {"turnline.errors"})

    def test_none_takes_another_one(self):
        for kind in REFUSALS:
            taken = [other for other in REFUSALS if issubclass(kind, other)]
            self.assertEqual(taken, [kind])

    def test_both_turn_error_and_value_error_take_each(self):
        for kind in REFUSALS:
            for above in (TurnError, ValueError):
                with self.assertRaises(above):
                    raise kind("why")


if __name__ == "__main__":
    unittest.main()
