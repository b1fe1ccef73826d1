"""The errors of the interface."""

import unittest

from wardhouse import errors

NAMES = ["BadPlan", "BadLetter", "Stranger", "Gone", "Nothing", "Closed", "BadHistory", "BadText"]


class Errors(unittest.TestCase):
    def test_house_error_is_straight_below_value_error(self):
        self.assertEqual(errors.HouseError.__bases__, (ValueError,))
        self.assertEqual(errors.HouseError.__module__, "wardhouse.errors")

    def test_each_is_straight_below_house_error(self):
        for name in NAMES:
            with self.subTest(name=name):
                found = getattr(errors, name)
                self.assertEqual(found.__bases__, (errors.HouseError,))
                self.assertEqual(found.__name__, name)
                self.assertEqual(found.__module__, "wardhouse.errors")

    def test_no_two_names_are_one_error(self):
        self.assertEqual(len({getattr(errors, name) for name in NAMES}), len(NAMES))

    def test_each_is_caught_by_its_own_name_and_no_other(self):
        for name in NAMES:
            for other in NAMES:
                with self.subTest(name=name, other=other):
                    caught = isinstance(getattr(errors, name)("why"), getattr(errors, other))
                    self.assertIs(caught, name == other)

    def test_each_is_raised_with_a_message(self):
        for name in NAMES + ["HouseError"]:
            with self.subTest(name=name):
                with self.assertRaises(errors.HouseError) as held:
                    raise getattr(errors, name)("why")
                self.assertEqual(str(held.exception), "why")


if __name__ == "__main__":
    unittest.main()
