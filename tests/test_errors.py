import copy
import unittest

from mendedruns import errors
from tests.strange import STRANGE, Hostile

FIELDS = {
    "InvalidProgram": "place", "InvalidState": "value", "InvalidArguments": "value", "InvalidExpression": "value",
    "InvalidTrace": "value", "InvalidCount": "value", "InvalidName": "value", "InvalidCommand": "line",
    "ParseError": "text", "Broken": "index", "UnknownName": "name", "NameTaken": "name", "UnknownMoment": "value",
    "LimitExceeded": "count",
}
BASES = {"UnknownName": KeyError, "NameTaken": LookupError, "UnknownMoment": IndexError, "LimitExceeded": OverflowError}
ANY_VALUES = STRANGE + [0, -1, 10 ** 5000, "", "a b", (), (1, "else", 0), {}, {"a": 1}]


class ErrorsTest(unittest.TestCase):
    def test_field_by_position(self):
        for word, field in FIELDS.items():
            for value in ANY_VALUES:
                error = getattr(errors, word)(value)
                self.assertTrue(getattr(error, field) is value, word)

    def test_field_by_name(self):
        for word, field in FIELDS.items():
            for value in ANY_VALUES:
                error = getattr(errors, word)(**{field: value})
                self.assertTrue(getattr(error, field) is value, word)

    def test_one_field_is_needed(self):
        for word, field in FIELDS.items():
            made = getattr(errors, word)
            self.assertRaises(TypeError, made)
            self.assertRaises(TypeError, made, 1, 2)
            self.assertRaises(TypeError, made, **{field + "s": 1})

    def test_bases(self):
        self.assertEqual(errors.RunError.__bases__, (ValueError,))
        for word in FIELDS:
            self.assertEqual(getattr(errors, word).__bases__, (BASES.get(word, errors.RunError),), word)

    def test_no_error_is_caught_as_another(self):
        for word in FIELDS:
            for other in FIELDS:
                if other != word:
                    self.assertFalse(issubclass(getattr(errors, word), getattr(errors, other)), (word, other))

    def test_only_ten_are_run_errors(self):
        for word in FIELDS:
            self.assertEqual(issubclass(getattr(errors, word), errors.RunError), word not in BASES, word)

    def test_raised_and_caught(self):
        for word, field in FIELDS.items():
            with self.assertRaises(getattr(errors, word)) as caught:
                raise getattr(errors, word)(7)
            self.assertEqual(getattr(caught.exception, field), 7)

    def test_each_keeps_a_field_of_its_own(self):
        first, second = errors.InvalidState(1), errors.InvalidState(2)
        self.assertEqual((first.value, second.value), (1, 2))

    def test_message_does_not_depend_on_the_value(self):
        for word, field in FIELDS.items():
            made = getattr(errors, word)
            for value in (Hostile(), 10 ** 5000):
                self.assertEqual(str(made(value)), str(made(**{field: value})))
                self.assertNotEqual(str(made(value)), "")

    def test_copied(self):
        for word, field in FIELDS.items():
            self.assertEqual(getattr(copy.copy(getattr(errors, word)((1, "else"))), field), (1, "else"))


if __name__ == "__main__":
    unittest.main()
