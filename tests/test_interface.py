"""The bounds, the errors and the functions of the interface: names, values, arguments."""

import unittest

from asidewoven import bounds, errors, programs

BOUNDS = {
    "MAX_NUMBER": 10 ** 18,
    "MAX_CELLS": 8,
    "MAX_FUNCTIONS": 12,
    "MAX_ASIDES": 10,
    "MAX_ROWS": 120,
    "SLOTS": 8,
    "MAX_PILE": 60,
    "MAX_PARTS": 16,
    "MAX_STATES": 64,
    "MAX_NODES": 2000,
    "MAX_STEPS": 5000,
    "MAX_INPUTS": 200,
    "MAX_CHOICES": 200,
    "MAX_EDITS": 40,
    "BATCH": 12,
}

ERRORS = {
    "Unfit": (),
    "BadText": ("line",),
    "BadProgram": ("error",),
    "BadAside": ("place", "error"),
    "TooMany": ("limit",),
    "NoNode": ("node",),
    "NoPart": ("node", "other"),
    "NoMoment": ("number",),
    "BadTurning": ("error",),
    "BadBatch": (),
    "Rejected": ("index",),
    "TooManyEdits": (),
    "NothingToUndo": (),
    "NothingToRedo": (),
    "NoVersion": ("given",),
}

FUNCTIONS = {
    "program_error": ("value",),
    "asides_error": ("program", "value"),
    "rows_of": ("rows",),
    "letters_of": ("program", "asides"),
    "body_at": ("program", "asides", "letter"),
}


class Bounds(unittest.TestCase):
    def test_each_bound_is_the_integer_told(self):
        for name, bound in BOUNDS.items():
            with self.subTest(name=name):
                self.assertEqual(getattr(bounds, name), bound)
                self.assertIs(getattr(bounds, name).__class__, int)


class Errors(unittest.TestCase):
    def values(self):
        """Values of each sort that may be handed to an error, unlike one another."""
        return [None, True, 7, 10 ** 399, "words\n", (), ((0, 0), "row"), [1, [2]], {"a": (1,)}, (0, (1,), None, ())]

    def test_all_are_defined_here_right_under_the_common_one(self):
        self.assertEqual(errors.AsideError.__bases__, (ValueError,))
        self.assertEqual(errors.AsideError.__module__, "asidewoven.errors")
        for name in ERRORS:
            with self.subTest(name=name):
                made = getattr(errors, name)
                self.assertEqual(made.__bases__, (errors.AsideError,))
                self.assertEqual((made.__name__, made.__module__), (name, "asidewoven.errors"))

    def test_no_error_is_another_one(self):
        self.assertEqual(len({getattr(errors, name) for name in ERRORS}), len(ERRORS))

    def test_arguments_by_place_are_kept_as_they_are(self):
        for name, arguments in ERRORS.items():
            for value in self.values():
                with self.subTest(name=name, value=value):
                    handed = [(value, at) if at else value for at in range(len(arguments))]
                    made = getattr(errors, name)(*handed)
                    self.check_kept(made, dict(zip(arguments, handed)))

    def test_arguments_by_name_are_kept_as_they_are(self):
        for name, arguments in ERRORS.items():
            for value in self.values():
                with self.subTest(name=name, value=value):
                    handed = {argument: (value, at) if at else value for at, argument in enumerate(arguments)}
                    made = getattr(errors, name)(**dict(reversed(list(handed.items()))))
                    self.check_kept(made, handed)

    def check_kept(self, made, handed):
        before = repr(handed)
        for argument, value in handed.items():
            self.assertIs(getattr(made, argument), value)
        self.assertEqual(repr(handed), before)
        self.assertIsInstance(str(made), str)

    def test_two_errors_of_one_class_keep_their_own(self):
        first, second = errors.BadAside(1, "name"), errors.BadAside(place=2, error="rows")
        self.assertEqual((first.place, first.error, second.place, second.error), (1, "name", 2, "rows"))

    def test_each_is_caught_as_what_it_is_under(self):
        for name, arguments in ERRORS.items():
            for caught in (errors.AsideError, ValueError):
                with self.subTest(name=name, caught=caught.__name__):
                    with self.assertRaises(caught):
                        raise getattr(errors, name)(*arguments)


class Functions(unittest.TestCase):
    PROGRAM = ((1,), ((1, (("tell", ("v", 0)),)), (0, (("rest",),))))
    ASIDE = (4, "around", (("tell", None),), ("any",), ("n", 1), (("on", 0, ()),))

    def test_each_is_defined_in_its_module(self):
        for name in FUNCTIONS:
            with self.subTest(name=name):
                function = getattr(programs, name)
                self.assertEqual((function.__name__, function.__module__), (name, "asidewoven.programs"))

    def test_by_place_and_by_name_the_same_is_told(self):
        handed = {"program": self.PROGRAM, "asides": (self.ASIDE,), "letter": -5, "rows": self.ASIDE[5]}
        told = {
            "program_error": None,
            "asides_error": None,
            "rows_of": (((0,), ("on", 0, ())),),
            "letters_of": (-5, 0, 1),
            "body_at": (("on", 0, ()),),
        }
        for name, arguments in FUNCTIONS.items():
            with self.subTest(name=name):
                value = self.PROGRAM if name == "program_error" else (self.ASIDE,)
                given = {argument: value if argument == "value" else handed[argument] for argument in arguments}
                function = getattr(programs, name)
                self.assertEqual(repr(function(*given.values())), repr(told[name]))
                self.assertEqual(repr(function(**given)), repr(told[name]))
                self.assertEqual(repr(function(**dict(reversed(list(given.items()))))), repr(told[name]))


if __name__ == "__main__":
    unittest.main()
