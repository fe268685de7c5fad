import copy
import unittest

from unwindrows import errors

UNDER = {
    "BadCode": ("place",),
    "BadPath": ("index",),
    "BadPlace": ("value",),
    "BadItem": ("value",),
    "BadTable": ("row",),
    "BadPaper": ("number",),
    "BadScript": ("index",),
    "BadHouse": ("place",),
    "BadText": ("line", "word"),
    "TooMany": ("most",),
    "NeverThere": ("place",),
}
ALL = {**UNDER, "Missing": ("name",)}
KINDS = (None, 0, -1, 10 ** 999, True, "", "a text", b"bytes", (), (1, 2), [3], {"k": "v"}, object(), ValueError)


class Bases(unittest.TestCase):
    def test_straight_under_unwind_error_and_no_other(self):
        for name in UNDER:
            self.assertEqual(getattr(errors, name).__bases__, (errors.UnwindError,), name)

    def test_unwind_error_is_straight_under_value_error(self):
        self.assertEqual(errors.UnwindError.__bases__, (ValueError,))

    def test_missing_is_straight_under_key_error(self):
        self.assertEqual(errors.Missing.__bases__, (KeyError,))
        self.assertFalse(issubclass(errors.Missing, errors.UnwindError))

    def test_defined_in_their_file(self):
        for name in (*ALL, "UnwindError"):
            self.assertEqual(getattr(errors, name).__module__, "unwindrows.errors")
            self.assertEqual(getattr(errors, name).__name__, name)


class Attributes(unittest.TestCase):
    def test_by_position_with_values_of_any_kind(self):
        for name, parameters in ALL.items():
            for start in range(len(KINDS)):
                values = [KINDS[(start + k) % len(KINDS)] for k in range(len(parameters))]
                error = getattr(errors, name)(*values)
                for parameter, value in zip(parameters, values):
                    self.assertIs(getattr(error, parameter), value, name)

    def test_by_name(self):
        for name, parameters in ALL.items():
            for value in KINDS:
                values = {parameter: (parameter, value) for parameter in parameters}
                error = getattr(errors, name)(**values)
                for parameter in parameters:
                    self.assertIs(getattr(error, parameter), values[parameter], name)

    def test_names_in_another_order(self):
        error = errors.BadText(word=2, line=1)
        self.assertEqual((error.line, error.word), (1, 2))

    def test_each_parameter_is_needed_and_no_more_are_taken(self):
        for name, parameters in ALL.items():
            with self.assertRaises(TypeError):
                getattr(errors, name)(*range(len(parameters) - 1))
            with self.assertRaises(TypeError):
                getattr(errors, name)(*range(len(parameters) + 1))

    def test_unwind_error_takes_a_text(self):
        for text in ("", "no such thing", "two\nlines"):
            self.assertEqual(str(errors.UnwindError(text)), text)

    def test_can_be_shown_and_copied(self):
        for name, parameters in ALL.items():
            error = getattr(errors, name)(*range(len(parameters)))
            self.assertIsInstance(str(error), str)
            self.assertEqual(copy.copy(error).__dict__, error.__dict__)


class Raising(unittest.TestCase):
    def test_caught_as_what_they_are_under(self):
        for name, parameters in UNDER.items():
            for caught in (errors.UnwindError, ValueError, getattr(errors, name)):
                with self.assertRaises(caught):
                    raise getattr(errors, name)(*parameters)
        with self.assertRaises(KeyError):
            raise errors.Missing("f")


if __name__ == "__main__":
    unittest.main()
