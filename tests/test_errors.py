import unittest

from roadsay import errors
from roadsay.errors import SayError

NAMES = ["NoShape", "NoSaying", "NoLetter", "NoCount", "NoTest", "NoTable", "NoText", "NoLine", "NoName", "NoUndo",
         "TooMany"]


class ErrorsTest(unittest.TestCase):
    def test_say_error_stands_straight_beneath_value_error(self):
        self.assertEqual(SayError.__bases__, (ValueError,))

    def test_each_refusal_stands_straight_beneath_say_error(self):
        for name in NAMES:
            self.assertEqual(getattr(errors, name).__bases__, (SayError,), name)
            self.assertEqual(getattr(errors, name).__name__, name)

    def test_no_refusal_stands_beneath_another_one(self):
        for name in NAMES:
            for other in NAMES:
                if name != other:
                    self.assertFalse(issubclass(getattr(errors, name), getattr(errors, other)), (name, other))

    def test_refusals_have_no_fields(self):
        for name in NAMES + ["SayError"]:
            error = getattr(errors, name)("why")
            self.assertEqual(vars(error), {})
            told = {key for key in vars(type(error)) if not key.startswith("__")}
            self.assertEqual(told, set())

    def test_each_is_caught_as_say_error_and_as_value_error(self):
        for name in NAMES:
            for above in (SayError, ValueError):
                with self.assertRaises(above):
                    raise getattr(errors, name)("why")


if __name__ == "__main__":
    unittest.main()
