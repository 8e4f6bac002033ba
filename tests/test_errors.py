"""The errors: fields, base classes, and that the very values are kept."""

import inspect
import unittest

from strayfiles import errors

# Written out by hand from the interface, class by class.
EXPECTED = {
    "BadStatement": ("StrayfilesError", ["text"]),
    "BadHandler": ("StrayfilesError", ["field"]),
    "BadBook": ("StrayfilesError", ["field"]),
    "BadLine": ("StrayfilesError", ["at"]),
    "BadPlace": ("StrayfilesError", ["row"]),
    "BadMove": ("StrayfilesError", ["move"]),
    "BadWalk": ("StrayfilesError", ["at"]),
    "BadAsks": ("StrayfilesError", ["asks"]),
    "BadEvent": ("StrayfilesError", ["at"]),
    "BadCare": ("StrayfilesError", ["at"]),
    "TooMany": ("StrayfilesError", ["what"]),
    "NoHandler": ("LookupError", ["name"]),
    "NoFile": ("LookupError", ["content"]),
    "NoRow": ("LookupError", ["content", "row"]),
    "NoRun": ("LookupError", ["run"]),
    "Busy": ("RuntimeError", ["run"]),
    "NotSo": ("RuntimeError", ["standing"]),
    "Unnamed": ("RuntimeError", ["content"]),
    "Over": ("RuntimeError", ["run"]),
    "NotRead": ("RuntimeError", ["reading"]),
    "Unfinished": ("RuntimeError", ["index"]),
}

BASES = {
    "StrayfilesError": (errors.StrayfilesError, ValueError),
    "LookupError": (LookupError,),
    "RuntimeError": (RuntimeError,),
}

ALL_BASES = (errors.StrayfilesError, ValueError, LookupError, RuntimeError)

NEVER = (KeyError, IndexError, NotImplementedError, RecursionError, UnicodeError,
         ArithmeticError, TypeError, AttributeError, OSError)


def some_values():
    """New values of many kinds, each time the same ones."""
    return [
        0, 1, -1, 10 ** 30 - 1, -(10 ** 30 - 1), 10 ** 5000, True, False, None,
        "", "put", "two words", "line\nfeed", "x" * 3000, b"bytes",
        [], (), [1, True, None], ("a", ["b", ("c",)]), [[[[[[[[]]]]]]]],
        {}, {"a": [1]}, object(), errors.Over(1), list(range(2000)),
    ]


class TestErrors(unittest.TestCase):
    def test_there_are_twenty_one_and_their_base(self):
        found = sorted(name for name, thing in vars(errors).items()
                       if inspect.isclass(thing) and issubclass(thing, Exception))
        self.assertEqual(found, sorted(list(EXPECTED) + ["StrayfilesError"]))
        self.assertEqual(len(EXPECTED), 21)

    def test_what_each_stands_directly_under(self):
        self.assertEqual(errors.StrayfilesError.__bases__, (ValueError,))
        for name, (base, _) in EXPECTED.items():
            with self.subTest(name):
                made = getattr(errors, name)
                self.assertEqual(made.__bases__, (BASES[base][0],))
                self.assertEqual(made.__module__, "strayfiles.errors")

    def test_what_each_stands_under_and_what_not(self):
        for name, (base, fields) in EXPECTED.items():
            error = getattr(errors, name)(*[7] * len(fields))
            for other in ALL_BASES:
                with self.subTest(name, other=other.__name__):
                    self.assertIs(isinstance(error, other), other in BASES[base])
            for other in NEVER:
                with self.subTest(name, other=other.__name__):
                    self.assertNotIsInstance(error, other)

    def test_each_is_of_its_own_class_only(self):
        for name, (_, fields) in EXPECTED.items():
            error = getattr(errors, name)(*["x"] * len(fields))
            for other in EXPECTED:
                with self.subTest(name, other=other):
                    self.assertIs(isinstance(error, getattr(errors, other)), name == other)

    def test_parameters_are_the_fields_in_their_order(self):
        for name, (_, fields) in EXPECTED.items():
            with self.subTest(name):
                made = getattr(errors, name)
                self.assertIn("__init__", vars(made))
                self.assertEqual(list(inspect.signature(made).parameters), fields)

    def test_fields_are_the_very_values_by_position_and_by_name(self):
        for name, (_, fields) in EXPECTED.items():
            made = getattr(errors, name)
            for value in some_values():
                passed = [value, [value]][:len(fields)]
                by_name = dict(zip(fields, passed))
                for error in (made(*passed), made(**by_name)):
                    with self.subTest(name, value=repr(passed)[:60] if value != 10 ** 5000 else "large"):
                        self.assertEqual(sorted(vars(error)), sorted(fields))
                        for field in fields:
                            self.assertIs(getattr(error, field), by_name[field])

    def test_fields_of_a_pair_are_not_exchanged(self):
        error = errors.NoRow("photo", 3)
        self.assertEqual((error.content, error.row), ("photo", 3))
        error = errors.NoRow(row=3, content="photo")
        self.assertEqual((error.content, error.row), ("photo", 3))

    def test_values_are_not_copied(self):
        asks = ["lost"]
        error = errors.BadAsks(asks)
        asks.append("blind")
        self.assertEqual(error.asks, ["lost", "blind"])

    def test_each_can_be_raised_and_caught(self):
        for name, (base, fields) in EXPECTED.items():
            made = getattr(errors, name)
            for caught in (made,) + BASES[base]:
                with self.subTest(name, caught=caught.__name__):
                    with self.assertRaises(caught) as seen:
                        raise made(*range(len(fields)))
                    self.assertIs(type(seen.exception), made)

    def test_wrong_numbers_of_fields(self):
        for name, (_, fields) in EXPECTED.items():
            made = getattr(errors, name)
            with self.subTest(name):
                self.assertRaises(TypeError, made)
                self.assertRaises(TypeError, made, *[0] * (len(fields) + 1))

    def test_an_error_equals_no_other_one(self):
        for name, (_, fields) in EXPECTED.items():
            error = getattr(errors, name)(*[1] * len(fields))
            for other in EXPECTED:
                if other != name:
                    self.assertFalse(error == getattr(errors, other)(*[1] * len(EXPECTED[other][1])))
            self.assertFalse(error == 1)

    def test_base_error(self):
        self.assertIsInstance(errors.StrayfilesError(), ValueError)
        for name in EXPECTED:
            self.assertNotIsInstance(errors.StrayfilesError(), getattr(errors, name))


if __name__ == "__main__":
    unittest.main()
