"""The errors of all stages: bases, arguments and attributes."""

import unittest

from farenough import errors
from farenough.errors import BuildError
from samples import deep

UNDER_BUILD_ERROR = {
    "BadTree": ("path",), "Halted": (), "NoTarget": ("name",), "NotSource": ("name",),
    "Stuck": ("ring",), "Clash": ("spot",), "Gap": ("spot",), "Rewritten": ("spot",),
    "NoPlace": ("spot",), "NotSettled": ("key",), "NotNeeded": ("spot",), "BadLine": ("line",),
    "BadName": ("line", "name"), "BadKind": ("line",), "NotOpen": ("key",), "NotCause": ("cause",),
    "NotFresh": ("words",), "NotPart": ("spot",), "Mismatch": ("name",), "Conflict": ("conflicts",),
    "Failed": ("path",), "BadEntry": ("entry",), "NoRow": (), "Taken": ("name",),
}
ELSEWHERE = {"NotAsked": (KeyError, ("key",)), "NoVersion": (IndexError, ("number",))}

VALUES = [None, True, False, 0, -3, 10 ** 5000, "", "x", "a%b", (), (0, 1), ("a", ("b", None)), deep(150), [1], {}]


def all_errors():
    table = {name: (BuildError, names) for name, names in UNDER_BUILD_ERROR.items()}
    table.update(ELSEWHERE)
    return [(getattr(errors, name), base, names) for name, (base, names) in table.items()]


class ErrorsTest(unittest.TestCase):

    def test_build_error_is_directly_under_value_error(self):
        self.assertEqual(BuildError.__bases__, (ValueError,))

    def test_each_error_is_directly_under_its_base(self):
        for error, base, _ in all_errors():
            self.assertEqual(error.__bases__, (base,), error)

    def test_each_error_is_defined_in_errors(self):
        for error, _, _ in all_errors():
            self.assertEqual(error.__module__, "farenough.errors")

    def test_made_by_position(self):
        for error, _, names in all_errors():
            for value in VALUES:
                values = [(value, at) for at in range(len(names))]
                made = error(*values)
                self.assertEqual([getattr(made, name) for name in names], values)

    def test_made_by_names(self):
        for error, _, names in all_errors():
            for value in VALUES:
                values = {name: (value, name) for name in names}
                made = error(**values)
                self.assertEqual({name: getattr(made, name) for name in names}, values)

    def test_the_very_value_is_kept(self):
        for error, _, names in all_errors():
            for value in VALUES:
                made = error(*[value] * len(names))
                for name in names:
                    self.assertIs(getattr(made, name), value)

    def test_two_arguments_keep_their_order(self):
        made = errors.BadName(3, "size")
        self.assertEqual((made.line, made.name), (3, "size"))
        made = errors.BadName(name="size", line=3)
        self.assertEqual((made.line, made.name), (3, "size"))

    def test_wrong_numbers_of_arguments(self):
        for error, _, names in all_errors():
            if names:
                with self.assertRaises(TypeError):
                    error()
                with self.assertRaises(TypeError):
                    error(*range(len(names) + 1))

    def test_caught_by_its_own_class_and_its_bases_alone(self):
        own = [error for error, _, _ in all_errors()]
        for error, base, names in all_errors():
            made = error(*names)
            self.assertIsInstance(made, error)
            self.assertIsInstance(made, base)
            for other in own:
                self.assertEqual(isinstance(made, other), other is error)
            self.assertEqual(isinstance(made, BuildError), base is BuildError)

    def test_raised_and_caught(self):
        for error, base, names in all_errors():
            for caught in (error, base):
                try:
                    raise error(*names)
                except caught as made:
                    self.assertEqual([getattr(made, name) for name in names], list(names))


if __name__ == "__main__":
    unittest.main()
