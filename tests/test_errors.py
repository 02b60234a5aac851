"""The errors of the interface: their base classes and attributes."""

import unittest

from leastfit import errors

# The names of the errors with the name of their attribute.
ATTRIBUTES = {
    "TooLarge": "limit",
    "InvalidValue": "value",
    "InvalidProgram": "part",
    "InvalidTask": "reason",
    "InvalidRow": "index",
    "NotFound": "name",
    "Malformed": "index",
}


class ErrorsTest(unittest.TestCase):

    def test_base_class_of_all(self):
        self.assertTrue(issubclass(errors.LeastError, ValueError))
        for name in [*ATTRIBUTES, "Stopped"]:
            with self.subTest(name):
                self.assertEqual(getattr(errors, name).__bases__, (errors.LeastError,))

    def test_attribute_is_what_was_given(self):
        for name, attribute in ATTRIBUTES.items():
            for given in ("rows", 0, 41, None, True, (), [1, (2, None)], ("input", 0)):
                with self.subTest(name, given=given):
                    error = getattr(errors, name)(given)
                    self.assertIs(getattr(error, attribute), given)

    def test_one_argument_is_needed(self):
        for name in ATTRIBUTES:
            with self.subTest(name):
                self.assertRaises(TypeError, getattr(errors, name))
                self.assertRaises(TypeError, getattr(errors, name), 1, 2)

    def test_stopped_has_no_argument(self):
        with self.assertRaises(errors.LeastError):
            raise errors.Stopped()

    def test_caught_as_value_error(self):
        with self.assertRaises(ValueError) as caught:
            raise errors.Malformed(3)
        self.assertEqual(caught.exception.index, 3)

    def test_messages_can_be_read(self):
        part = ("constant", 1)
        for _ in range(100000):
            part = ("neg", part)
        for name in ATTRIBUTES:
            self.assertIsInstance(str(getattr(errors, name)("rows")), str)
        self.assertIsInstance(str(errors.InvalidProgram(part)), str)
        self.assertIsInstance(str(errors.InvalidValue(part)), str)


if __name__ == "__main__":
    unittest.main()
