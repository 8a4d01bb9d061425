"""[2], [3]: the errors."""

import unittest

from openchange import errors

NAMES = {"BadPlan": "part", "BadLag": "lag", "BadMove": "number", "BadVersion": "version", "BadBack": "version",
         "BadLean": "part", "BadSpare": "told", "TooLarge": "number"}


class ErrorsTest(unittest.TestCase):
    def test_change_error_is_a_value_error(self):
        self.assertEqual(errors.ChangeError.__bases__, (ValueError,))

    def test_all_are_directly_below_change_error(self):
        for name in NAMES:
            self.assertEqual(getattr(errors, name).__bases__, (errors.ChangeError,), name)

    def test_arguments_are_attributes(self):
        for name, attribute in NAMES.items():
            for value in ("kind", 7, None, [1], 10 ** 6000):
                error = getattr(errors, name)(value)
                self.assertIs(getattr(error, attribute), value)
                self.assertIsInstance(str(error), str)

    def test_arguments_may_be_named(self):
        for name, attribute in NAMES.items():
            error = getattr(errors, name)(**{attribute: 3})
            self.assertEqual(getattr(error, attribute), 3)


if __name__ == "__main__":
    unittest.main()
