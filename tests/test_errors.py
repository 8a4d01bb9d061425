"""[2] and the interface: the errors."""

import unittest

from openchange import changeerrors, errors

NAMES = {"BadPlan": "part", "BadLag": "lag", "BadMove": "number", "BadVersion": "version", "BadBack": "version",
         "BadLean": "part", "BadSpare": "told", "TooLarge": "number"}
CHANGE_NAMES = {"BadRows": "focus", "NotNow": "event", "BadTerms": "part", "BadChange": "element"}

# Each error class with the name of its one argument.
ALL = [(getattr(errors, name), NAMES[name]) for name in NAMES]
ALL += [(getattr(changeerrors, name), CHANGE_NAMES[name]) for name in CHANGE_NAMES]


class ErrorsTest(unittest.TestCase):
    def test_change_error_is_a_value_error(self):
        self.assertEqual(errors.ChangeError.__bases__, (ValueError,))

    def test_all_are_directly_below_change_error(self):
        for error, _ in ALL + [(changeerrors.BadText, None)]:
            self.assertEqual(error.__bases__, (errors.ChangeError,), error)

    def test_arguments_are_attributes(self):
        for made, attribute in ALL:
            for value in ("kind", 7, None, [1], 10 ** 6000):
                error = made(value)
                self.assertIs(getattr(error, attribute), value)
                self.assertIsInstance(str(error), str)

    def test_arguments_may_be_named(self):
        for made, attribute in ALL:
            error = made(**{attribute: 3})
            self.assertEqual(getattr(error, attribute), 3)

    def test_two_arguments(self):
        for error in (changeerrors.BadText(3, 10 ** 6000), changeerrors.BadText(column=10 ** 6000, line=3)):
            self.assertEqual((error.line, error.column), (3, 10 ** 6000))
            self.assertIsInstance(str(error), str)


if __name__ == "__main__":
    unittest.main()
