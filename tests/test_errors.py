"""[11], and what [4] says of errors."""

import unittest

from neverjammed import errors
from tests.helper import ODD_VALUES

FIELDS = {
    "Wrong": "place", "NoText": "line", "TooMany": "most", "NoneLet": "paper", "Jammed": "link",
    "NoFlow": "flow", "NoLink": "link", "NoOrder": "number",
}
CLASSES = {name: getattr(errors, name) for name in [*FIELDS, "NoCommand"]}


def made(name, *things):
    return CLASSES[name](*things)


class ErrorsTest(unittest.TestCase):

    def test_the_family(self):
        self.assertEqual(errors.JamError.__bases__, (ValueError,))
        for name, kind in CLASSES.items():
            self.assertEqual(kind.__bases__, (errors.JamError,), name)
            for other_name, other in CLASSES.items():
                self.assertEqual(issubclass(kind, other), name == other_name)

    def test_jam_error_is_a_value_error_that_can_be_raised(self):
        for things in [(), ("why",)]:
            with self.assertRaises(ValueError):
                raise errors.JamError(*things)
        self.assertNotIsInstance(errors.JamError(), tuple(CLASSES.values()))

    def test_the_field_is_the_object_itself(self):
        for name, field in FIELDS.items():
            for thing in [*ODD_VALUES, (1, [2]), object()]:
                error = made(name, thing)
                self.assertIs(getattr(error, field), thing)
                self.assertEqual(list(vars(error)), [field])

    def test_what_is_changed_afterwards_is_changed_in_the_field(self):
        for name, field in FIELDS.items():
            row, table = [1], {"a": [1]}
            first, second = made(name, row), made(name, table)
            row.append(2)
            table["a"].append(3)
            table["b"] = 4
            self.assertEqual(getattr(first, field), [1, 2])
            self.assertEqual(getattr(second, field), {"a": [1, 3], "b": 4})

    def test_two_errors_alive_at_once(self):
        for name, field in FIELDS.items():
            first = made(name, 1)
            second = made(name, 2)
            self.assertEqual((getattr(first, field), getattr(second, field)), (1, 2))

    def test_each_one_takes_just_its_arguments(self):
        for name in FIELDS:
            for things in [(), (1, 2)]:
                with self.assertRaises(TypeError):
                    made(name, *things)
        with self.assertRaises(TypeError):
            errors.NoCommand(1)
        self.assertEqual(vars(errors.NoCommand()), {})

    def test_each_one_is_raised_and_caught_by_name(self):
        for name, field in FIELDS.items():
            for kind in [CLASSES[name], errors.JamError, ValueError]:
                with self.assertRaises(kind) as caught:
                    raise made(name, ("thing",))
                self.assertEqual(getattr(caught.exception, field), ("thing",))
        with self.assertRaises(errors.JamError):
            raise errors.NoCommand()


if __name__ == "__main__":
    unittest.main()
