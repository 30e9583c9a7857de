"""The errors: their fields and the classes above them."""

import inspect
import unittest

from namesone import errors

FIELDS = {
    ValueError: {
        "NoSign": ["sign"], "NoFold": ["sign"], "NoMark": ["sign"], "NoWord": ["word"],
        "NoPath": ["path"], "NoDeed": ["at"], "NoText": ["index"], "NoCommand": [],
    },
    TypeError: {"NoTable": ["given"], "NoNumber": ["number"]},
    KeyError: {"Missing": ["path"], "Unknown": ["name"]},
    LookupError: {"Present": ["path"]},
    IndexError: {"NoOrder": ["order"]},
    OverflowError: {"TooMany": ["limit"]},
    RuntimeError: {
        "Barred": ["first", "second"], "Inside": ["path"], "NoLink": ["path"],
        "NoFile": ["path"], "Clash": ["at"], "Stale": ["path"],
    },
}
CASES = [(base, name, fields) for base, named in FIELDS.items() for name, fields in named.items()]


class ErrorsTest(unittest.TestCase):
    def test_all_are_there_and_no_others(self):
        found = [name for name, thing in vars(errors).items() if inspect.isclass(thing)]
        self.assertEqual(sorted(found), sorted([name for _, name, _ in CASES]))

    def test_each_is_directly_under_its_class(self):
        for base, name, _ in CASES:
            self.assertEqual(getattr(errors, name).__bases__, (base,), name)

    def test_fields_by_position(self):
        for _, name, fields in CASES:
            values = [object() for _ in fields]
            error = getattr(errors, name)(*values)
            for field, value in zip(fields, values):
                self.assertIs(getattr(error, field), value, name)

    def test_fields_by_name(self):
        for _, name, fields in CASES:
            values = {field: object() for field in fields}
            error = getattr(errors, name)(**values)
            for field, value in values.items():
                self.assertIs(getattr(error, field), value, name)

    def test_fields_take_any_value(self):
        for _, name, fields in CASES:
            for value in (None, "", "a/b", -1, ["a", 1], {"a": ()}):
                error = getattr(errors, name)(*[value for _ in fields])
                for field in fields:
                    self.assertEqual(getattr(error, field), value, name)

    def test_number_of_arguments(self):
        for _, name, fields in CASES:
            if fields:
                with self.assertRaises(TypeError):
                    getattr(errors, name)()
                with self.assertRaises(TypeError):
                    getattr(errors, name)(*range(len(fields) + 1))

    def test_they_are_raised_and_caught(self):
        for base, name, fields in CASES:
            with self.assertRaises(base):
                raise getattr(errors, name)(*["x" for _ in fields])


if __name__ == "__main__":
    unittest.main()
