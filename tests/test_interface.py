"""The bounds, the errors and the functions of the interface: names, values, arguments."""

import importlib
import inspect
import unittest

from asidewoven import bounds, errors

BOUNDS = {
    "MAX_NUMBER": 10 ** 18,
    "MAX_CELLS": 8,
    "MAX_FUNCTIONS": 12,
    "MAX_ASIDES": 10,
    "MAX_ROWS": 120,
    "SLOTS": 8,
    "MAX_PILE": 60,
    "MAX_PARTS": 16,
    "MAX_STATES": 64,
    "MAX_NODES": 2000,
    "MAX_STEPS": 5000,
    "MAX_INPUTS": 200,
    "MAX_CHOICES": 200,
    "MAX_EDITS": 40,
    "BATCH": 12,
}

ERRORS = {
    "Unfit": (),
    "BadText": ("line",),
    "BadProgram": ("error",),
    "BadAside": ("place", "error"),
    "TooMany": ("limit",),
    "NoNode": ("node",),
    "NoPart": ("node", "other"),
    "NoMoment": ("number",),
    "BadTurning": ("error",),
    "BadBatch": (),
    "Rejected": ("index",),
    "TooManyEdits": (),
    "NothingToUndo": (),
    "NothingToRedo": (),
    "NoVersion": ("given",),
}

RUN = ("program", "asides", "inputs", "steps")
NODES = ("program", "asides", "begins")

FUNCTIONS = {
    "programs": {
        "program_error": ("value",),
        "asides_error": ("program", "value"),
        "rows_of": ("rows",),
        "letters_of": ("program", "asides"),
        "body_at": ("program", "asides", "letter"),
    },
    "texts": {
        "program_text": ("program",),
        "parse_program": ("value",),
        "asides_text": ("asides",),
        "parse_asides": ("program", "value"),
    },
    "machine": {"run": RUN, "moments": RUN, "openings": RUN},
    "piles": {
        "has_pile": ("part", "pile"),
        "pile_machine": ("part", "letters"),
        "unlike_pile": ("part", "other", "letters"),
        "first_pile": ("part", "letters"),
    },
    "fits": {
        "fits_at": ("asides", "kind", "number", "pile"),
        "states_at": ("program", "asides", "pile"),
        "settled": ("program", "asides", "kind", "number"),
    },
    "nodes": {
        "nodes": NODES,
        "ends": NODES,
        "runnable": NODES + ("node",),
        "chains": NODES + ("node",),
        "all_chains": NODES,
        "way_to": NODES + ("node",),
        "way_holds": NODES + ("node", "value"),
        "meeting": ("program", "asides", "a", "b"),
        "dead": ("program", "asides"),
        "ringing": ("program", "asides"),
    },
    "free": {"free_run": ("program", "asides", "choices")},
    "classes": {
        "classes": NODES,
        "classes_hold": NODES + ("value",),
        "parting": ("program", "asides", "node", "other"),
        "parting_holds": ("program", "asides", "node", "other", "value"),
    },
    "weaving": {
        "weave": NODES,
        "copies_of": ("woven", "letter"),
        "run_woven": ("woven", "inputs", "steps"),
        "free_woven": ("woven", "choices"),
    },
    "charts": {"chart_error": ("woven", "value")},
    "judging": {"judge": NODES + ("woven", "chart")},
    "turnings": {
        "turning_error": NODES + ("woven", "chart", "turning"),
        "turned": NODES + ("woven", "chart", "turning"),
    },
    "exchange": {
        "run_exchanged": ("program", "asides", "changes", "inputs", "steps"),
        "run_handed": ("program", "asides", "changes", "inputs", "steps"),
    },
    "why": {"why": RUN + ("number",), "first_unlike": ("program", "asides", "others", "inputs", "steps")},
}

# The methods of each class that are called by their names, with their arguments behind the object's own.
CLASSES = {
    "benches": {
        "Bench": {
            "__init__": ("program", "asides"),
            "told": ("inputs", "steps"),
            "woven": (),
            "row": ("f", "place", "row"),
            "put": ("place", "aside"),
            "out": ("place",),
            "swap": ("place", "further"),
            "batch": ("edits",),
            "undo": (),
            "redo": (),
            "at": ("version",),
            "copy": (),
            "attempt": ("work",),
        },
    },
    "shells": {"Shell": {"say": ("line",)}},
}

HANDED = {
    "program": ((1,), ((1, (("tell", ("v", 0)),)), (0, (("call", 0, 0, (("n", 7),)),)))),
    "asides": ((4, "around", (("tell", None),), ("any",), ("n", 1), (("on", 0, ()),)),),
    "rows": (("on", 0, ()),),
    "letter": -5,
    "inputs": (1, 2),
    "steps": 9,
    "part": ("row", (("any",), ("letters", (0,)))),
    "other": ("any",),
    "pile": (1, 0),
    "letters": (0, 1),
    "kind": "tell",
    "number": None,
    "begins": ((1, 0),),
    "a": 0,
    "b": 0,
    "choices": (0, 0, 1),
    "node": (0, (2,), None, ()),
    "turning": ("order", (1, 0)),
    "changes": (),
}

MAIN, UNDER = (1, (1,), None, ()), (0, (2,), None, ())

# What weave tells of the program and the asides handed, for the begins handed.
CHART = ((UNDER,), (MAIN,))
WOVEN = ((1,), (("around", ("n", 1)),), (
    (0, (("tell", ("v", 0), ((), ("tell", None, -1))),)), (1, (("call", 0, 0, (("n", 7),), ((), ("call", 0, 0))),)),
), 1)
TURNED = ((1,), WOVEN[1], (
    (1, (("call", 0, 0, (("n", 7),), ((), ("call", 0, 1))),)), (0, (("tell", ("v", 0), ((), ("tell", None, -1))),)),
), 0)

# Function 0 of this one has two nodes, as an aside is run at its tell where 1 is below.
PARTED = {
    "program": ((), ((0, (("tell", ("n", 1)),)), (0, (("call", 0, 0, ()),)), (0, (("call", 0, 0, ()), ("call", 0, 1, ()))))),
    "asides": ((0, "before", (("tell", None),), ("row", (("star", ("any",)), ("letters", (1,)), ("any",))), ("v", 0), ()),),
    "node": (0, (0,), None, ()),
    "other": (0, (2,), None, ()),
}

# What is handed to those that are asked of other things.
FURTHER = {
    "copies_of": {"letter": 0},
    "why": {"asides": ((4, "before", (("call", None),), ("any",), ("n", 1), (("rest",),)),), "number": 0},
    "first_unlike": {"others": ((4, "before", (("tell", None),), ("star", ("any",)), ("n", 0), ()),)},
}

# What is handed for value.
VALUES = {
    "chart_error": CHART,
    "way_holds": (MAIN, UNDER),
    "classes_hold": ((UNDER,), (MAIN,)),
    "parting_holds": ((0, 0), (0, 0, 0, 0), ()),
    "program_error": HANDED["program"],
    "asides_error": HANDED["asides"],
    "parse_program": "cells none\nfunction 0\nend",
    "parse_asides": "aside 4 around\nmoments tell\npart any\ntest 1\non 0\nend",
}

TOLD = {
    "program_error": None,
    "asides_error": None,
    "rows_of": (((0,), ("on", 0, ())),),
    "letters_of": (-5, 0, 1),
    "body_at": (("on", 0, ()),),
    "program_text": "cells 1\nfunction 1\ntell v0\nend\nfunction 0\ncall 0 0 7\nend",
    "parse_program": ((), ((0, ()),)),
    "asides_text": VALUES["parse_asides"],
    "parse_asides": HANDED["asides"],
    "run": ((("tell", 7),), ("answer", 0), 2),
    "moments": (("call", 0, (7,), (1,), ()), ("tell", None, (7,), (1, 0), ())),
    "openings": ((1,), (1, 0)),
    "has_pile": True,
    "pile_machine": (((1, 1), (2, 3), (3, 3), (3, 3)), (False, False, True, False)),
    "unlike_pile": (0,),
    "first_pile": (0, 0),
    "fits_at": (),
    "states_at": (2,),
    "settled": ("pile",),
    "nodes": (UNDER, MAIN),
    "ends": ((UNDER, False, True, ()), (MAIN, False, True, (3,))),
    "runnable": ((0,),),
    "chains": (((0,), (), ("tell", None, None)),),
    "all_chains": ((UNDER, (((0,), (), ("tell", None, None)),)), (MAIN, (((0,), (), ("call", 0, UNDER)),))),
    "way_to": (UNDER,),
    "way_holds": False,
    "meeting": None,
    "dead": (0,),
    "ringing": None,
    "free_run": ((("body", 1), ("body", 0), ("deed", "tell", None), ("end", 0), ("end", 1)), ()),
    "classes": ((UNDER,), (MAIN,)),
    "classes_hold": True,
    "parting": ((0, 0), (0, 0, 0, 0), ()),
    "parting_holds": True,
    "weave": (WOVEN, CHART),
    "copies_of": (0,),
    "run_woven": ((("tell", 7),), ("answer", 0), 2),
    "free_woven": ((("body", 1), ("body", 0), ("deed", "tell", None), ("end", 0), ("end", 1)), ()),
    "chart_error": None,
    "judge": None,
    "turning_error": None,
    "turned": (TURNED, (CHART[1], CHART[0])),
    "run_exchanged": ((("tell", 7),), ("answer", 0), 2, 0),
    "run_handed": ((("tell", 7),), ("answer", 0), 2, 0, (2,)),
    "why": ((1,), 0, (1,)),
    "first_unlike": (1, (), (0,)),
}


class Bounds(unittest.TestCase):
    def test_each_bound_is_the_integer_told(self):
        for name, bound in BOUNDS.items():
            with self.subTest(name=name):
                self.assertEqual(getattr(bounds, name), bound)
                self.assertIs(getattr(bounds, name).__class__, int)


class Errors(unittest.TestCase):
    def values(self):
        """Values of each sort that may be handed to an error, unlike one another."""
        return [None, True, 7, 10 ** 399, "words\n", (), ((0, 0), "row"), [1, [2]], {"a": (1,)}, (0, (1,), None, ())]

    def test_all_are_defined_here_right_under_the_common_one(self):
        self.assertEqual(errors.AsideError.__bases__, (ValueError,))
        self.assertEqual(errors.AsideError.__module__, "asidewoven.errors")
        for name in ERRORS:
            with self.subTest(name=name):
                made = getattr(errors, name)
                self.assertEqual(made.__bases__, (errors.AsideError,))
                self.assertEqual((made.__name__, made.__module__), (name, "asidewoven.errors"))

    def test_no_error_is_another_one(self):
        self.assertEqual(len({getattr(errors, name) for name in ERRORS}), len(ERRORS))

    def test_arguments_by_place_are_kept_as_they_are(self):
        for name, arguments in ERRORS.items():
            for value in self.values():
                with self.subTest(name=name, value=value):
                    handed = [(value, at) if at else value for at in range(len(arguments))]
                    made = getattr(errors, name)(*handed)
                    self.check_kept(made, dict(zip(arguments, handed)))

    def test_arguments_by_name_are_kept_as_they_are(self):
        for name, arguments in ERRORS.items():
            for value in self.values():
                with self.subTest(name=name, value=value):
                    handed = {argument: (value, at) if at else value for at, argument in enumerate(arguments)}
                    made = getattr(errors, name)(**dict(reversed(list(handed.items()))))
                    self.check_kept(made, handed)

    def check_kept(self, made, handed):
        before = repr(handed)
        for argument, value in handed.items():
            self.assertIs(getattr(made, argument), value)
        self.assertEqual(repr(handed), before)
        self.assertIsInstance(str(made), str)

    def test_two_errors_of_one_class_keep_their_own(self):
        first, second = errors.BadAside(1, "name"), errors.BadAside(place=2, error="rows")
        self.assertEqual((first.place, first.error, second.place, second.error), (1, "name", 2, "rows"))

    def test_each_is_caught_as_what_it_is_under(self):
        for name, arguments in ERRORS.items():
            for caught in (errors.AsideError, ValueError):
                with self.subTest(name=name, caught=caught.__name__):
                    with self.assertRaises(caught):
                        raise getattr(errors, name)(*arguments)


class Functions(unittest.TestCase):
    def functions(self):
        """Each function with its name, its module and its arguments."""
        for module, functions in FUNCTIONS.items():
            for name, arguments in functions.items():
                with self.subTest(module=module, name=name):
                    yield getattr(importlib.import_module(f"asidewoven.{module}"), name), name, module, arguments

    def given(self, name, arguments):
        handed = {**HANDED, "woven": WOVEN, "chart": CHART, **FURTHER.get(name, {})}
        handed = {**handed, **PARTED} if name.startswith("parting") else handed
        return {argument: VALUES[name] if argument == "value" else handed[argument] for argument in arguments}

    def test_each_is_defined_in_its_module(self):
        for function, name, module, arguments in self.functions():
            self.assertEqual((function.__name__, function.__module__), (name, f"asidewoven.{module}"))
            self.assertEqual(tuple(inspect.signature(function).parameters), arguments)

    def test_by_place_and_by_name_the_same_is_told(self):
        for function, name, _, arguments in self.functions():
            given = self.given(name, arguments)
            before = repr(given)
            for _ in range(2):
                self.assertEqual(repr(function(*given.values())), repr(TOLD[name]))
                self.assertEqual(repr(function(**given)), repr(TOLD[name]))
                self.assertEqual(repr(function(**dict(reversed(list(given.items()))))), repr(TOLD[name]))
            self.assertEqual(repr(given), before)


class Classes(unittest.TestCase):
    def classes(self):
        for module, classes in CLASSES.items():
            for name, methods in classes.items():
                yield getattr(importlib.import_module(f"asidewoven.{module}"), name), name, module, methods

    def test_each_is_defined_in_its_module_with_its_methods(self):
        for made, name, module, methods in self.classes():
            self.assertEqual((made.__name__, made.__module__), (name, f"asidewoven.{module}"))
            for method, arguments in methods.items():
                with self.subTest(name=name, method=method):
                    self.assertIn(method, vars(made))
                    self.assertEqual(tuple(inspect.signature(vars(made)[method]).parameters)[1:], arguments)

    def test_a_shell_is_made_of_nothing(self):
        for made, name, _, _ in self.classes():
            if name == "Shell":
                self.assertEqual(tuple(inspect.signature(made).parameters), ())

    def test_methods_by_place_and_by_name(self):
        from asidewoven.benches import Bench

        program, asides = HANDED["program"], HANDED["asides"]
        one, other = Bench(program, asides), Bench(asides=asides, program=program)
        new = (3, "before", (("tell", None),), ("any",), ("n", 1), ())
        for method, handed in (("row", (1, (0,), ("rest",))), ("put", (1, new)), ("swap", (0, 1)), ("out", (0,)), ("batch", ((),)), ("undo", ()), ("redo", ()), ("at", (2,)), ("told", ((), 9)), ("attempt", (len,)), ("woven", ())):
            names = CLASSES["benches"]["Bench"][method]
            named = dict(reversed(list(zip(names, handed))))
            self.assertEqual(repr(getattr(one, method)(*handed)), repr(getattr(other, method)(**named)), method)
            self.assertEqual(one, other)

    def test_all_modules_of_the_interface_are_there(self):
        for module in ("bounds", "errors", "programs", "texts", "machine", "piles", "fits", "nodes", "free", "classes", "weaving", "charts", "judging", "turnings", "exchange", "why", "benches", "shells"):
            importlib.import_module(f"asidewoven.{module}")


if __name__ == "__main__":
    unittest.main()
