"""The refusals of the interface: which classes there are, and what stands under what."""

import unittest

from leanestate import errors

REFUSALS = (
    "NoRatio", "NoText", "TooMany", "NoClaim", "NoEstate", "NoRule", "NoOrder",
    "NoSharing", "NoClaimer", "NoAmount", "NoGroup", "NoLine", "NoName", "Known",
)


class Refusals(unittest.TestCase):
    def test_lean_error_is_a_value_error(self):
        self.assertTrue(issubclass(errors.LeanError, ValueError))

    def test_there_are_fourteen(self):
        self.assertEqual(len(set(getattr(errors, name) for name in REFUSALS)), 14)

    def test_each_is_a_lean_error_and_a_value_error(self):
        for name in REFUSALS:
            with self.subTest(name=name):
                refusal = getattr(errors, name)
                self.assertEqual(refusal.__name__, name)
                self.assertEqual(refusal.__bases__, (errors.LeanError,))
                self.assertIsInstance(refusal("words"), ValueError)

    def test_none_stands_under_another_one(self):
        for name in REFUSALS:
            self.assertFalse(issubclass(errors.LeanError, getattr(errors, name)))
            for other in REFUSALS:
                if name != other:
                    with self.subTest(name=name, other=other):
                        self.assertFalse(issubclass(getattr(errors, name), getattr(errors, other)))

    def test_each_is_taken_as_itself_and_as_any_refusal(self):
        for name in REFUSALS:
            refusal = getattr(errors, name)
            for taken in (refusal, errors.LeanError, ValueError):
                with self.subTest(name=name, taken=taken), self.assertRaises(taken):
                    raise refusal("words")


if __name__ == "__main__":
    unittest.main()
