import copy
import unittest

from stagecuts.errors import (
    BadLog,
    BadPlan,
    BadText,
    CutsError,
    NothingToRedo,
    NothingToUndo,
    TooMany,
    TooManyEdits,
    Unfit,
)
from stagecuts.plans import plan_error

BARE = (Unfit, BadText, TooManyEdits, NothingToUndo, NothingToRedo)
TELLING = ((BadPlan, "error"), (TooMany, "limit"), (BadLog, "place"))
ALL = BARE + tuple(kind for kind, _ in TELLING)
VALUES = (
    None,
    True,
    False,
    0,
    1,
    -7,
    10 ** 399,
    "",
    "many\nlines",
    (),
    ("form", (0, 1)),
    [],
    [1, [2, None]],
    {},
    {"a": [1], (1, 2): True},
    Unfit(),
    BadLog(3),
)


class ClassesTest(unittest.TestCase):
    def test_cuts_error_stands_straight_under_value_error(self):
        self.assertEqual(CutsError.__bases__, (ValueError,))

    def test_each_error_stands_straight_under_cuts_error(self):
        for kind in ALL:
            self.assertEqual(kind.__bases__, (CutsError,), kind)

    def test_none_stands_under_another(self):
        for kind in ALL:
            for other in ALL:
                self.assertEqual(issubclass(kind, other), kind is other)

    def test_names_are_those_of_the_interface(self):
        self.assertEqual(CutsError.__name__, "CutsError")
        names = ["Unfit", "BadText", "TooManyEdits", "NothingToUndo", "NothingToRedo"]
        names += ["BadPlan", "TooMany", "BadLog"]
        self.assertEqual([kind.__name__ for kind in ALL], names)

    def test_all_are_defined_in_their_own_file(self):
        for kind in ALL + (CutsError,):
            self.assertEqual(kind.__module__, "stagecuts.errors")


class ArgumentsTest(unittest.TestCase):
    def test_errors_without_arguments_are_made_and_raised(self):
        for kind in BARE:
            with self.assertRaises(kind) as caught:
                raise kind()
            self.assertEqual(vars(caught.exception), {})

    def test_arguments_are_kept_by_place(self):
        for kind, name in TELLING:
            for value in VALUES:
                self.check_kept(kind(value), name, value)

    def test_arguments_are_kept_by_name(self):
        for kind, name in TELLING:
            for value in VALUES:
                self.check_kept(kind(**{name: value}), name, value)

    def check_kept(self, error, name, value):
        written = repr(value)
        self.assertEqual(list(vars(error)), [name])
        self.assertIs(getattr(error, name), value)
        with self.assertRaises(type(error)) as caught:
            raise error
        self.assertIs(getattr(caught.exception, name), value)
        self.assertEqual(repr(value), written)

    def test_another_error_changes_none_made_ahead(self):
        for kind, name in TELLING:
            first, second = kind(1), kind(2)
            self.assertEqual((getattr(first, name), getattr(second, name)), (1, 2))

    def test_arguments_have_to_be_told(self):
        for kind, _ in TELLING:
            self.assertRaises(TypeError, kind)
            self.assertRaises(TypeError, kind, 1, 2)
            self.assertRaises(TypeError, kind, value=1)

    def test_a_copy_keeps_what_was_told(self):
        for kind, name in TELLING:
            for error in (kind(("form", ())), kind(**{name: ("form", ())})):
                self.assertEqual(getattr(copy.copy(error), name), ("form", ()))

    def test_what_plan_error_tells_may_be_handed_in(self):
        self.assertEqual(BadPlan(plan_error(0)).error, ("form", ()))

    def test_errors_may_be_handed_in_as_values(self):
        for error in (Unfit(), BadPlan(1), TooMany(limit=4096), BadLog(0)):
            self.assertEqual(plan_error(error), ("form", ()))
            self.assertEqual(plan_error((1, 0, ((1, error),))), ("form", (0,)))


if __name__ == "__main__":
    unittest.main()
