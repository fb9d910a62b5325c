"""Any value may be asked of; nothing that is passed is changed; equal calls tell the same ([A3])."""

import copy
import unittest

from asidewoven.benches import Bench
from asidewoven.charts import chart_error
from asidewoven.errors import AsideError, BadAside, BadProgram, BadText, BadTurning, Unfit
from asidewoven.judging import judge
from asidewoven.programs import asides_error, body_at, letters_of, program_error, rows_of
from asidewoven.shells import Shell
from asidewoven.texts import asides_text, parse_asides, parse_program, program_text
from asidewoven.turnings import turned, turning_error
from asidewoven.weaving import weave
from samples import AHEAD, NO_TUPLES, ONE, REST, RIGHT_EXPRESSIONS, RIGHT_ROWS, WRONG_EXPRESSIONS, WRONG_ROWS, wide

PROGRAM = wide(*RIGHT_ROWS)
ASIDE = (5, "around", (("call", None), ("get", 1)), ("row", (("any",), ("letters", (0, -6)))), ONE, (("on", 0, (ONE,)),))
ASIDES = (ASIDE, (2, "before", (("tell", None),), ("star", ("any",)), ("v", 0), (REST, ("if", ONE, (REST,), ()))))


def deep(make):
    """A value that is nested twenty deep."""
    value = 7
    for _ in range(20):
        value = make(value)
    return value


VALUES = NO_TUPLES + WRONG_ROWS + WRONG_EXPRESSIONS + RIGHT_ROWS + RIGHT_EXPRESSIONS + ASIDES + (
    PROGRAM, ASIDES, REST, ONE, 10 ** 399, "x" * 20000, "cells none\nfunction 0\nend", ("",) * 4000, [None] * 3000,
    {number: (number,) for number in range(1000)}, {(1, (2,)): [{}], None: "", True: False},
    deep(lambda value: (value,)), deep(lambda value: [value]), deep(lambda value: {0: value}),
    deep(lambda value: (value, [value]) if value == 7 else (value, ())), deep(lambda value: ("not", value)),
    deep(lambda value: ("row", (value,)) if value != 7 else ("any",)), deep(lambda value: ("plus", value, ONE)),
    deep(lambda value: ("if", ONE, (value,), ())), deep(lambda value: ("try", (), (), 0, (value,))),
    rows_of(PROGRAM[1][-1][1]), letters_of(PROGRAM, ASIDES), (None, "rows"), ((0, 0), "row"),
)


def replaced(value, other):
    """All values that come of value if one thing in it, at whatever depth in tuples, is exchanged for the other."""
    yield other
    if isinstance(value, tuple):
        for at, item in enumerate(value):
            for changed in replaced(item, other):
                yield value[:at] + (changed,) + value[at + 1:]


class AnyValue(unittest.TestCase):
    def check_program_told(self, told):
        """What program_error tells is one of the forms that the document has for it."""
        if told is None or told in ("form", "cells", "functions") or told == (None, "rows"):
            return
        place, word = told
        self.assertIs(place.__class__, tuple)
        self.assertTrue(all(number.__class__ is int for number in place))
        self.assertEqual(word, "function" if len(place) == 1 else "row")

    def check_asides_told(self, told):
        if told is None or told == "form":
            return
        place, word = told
        self.assertIs(place.__class__, int)
        self.assertIn(word, ("aside", "moments", "part", "test", "rows", "name"))

    def test_no_value_raises_an_error(self):
        for value in VALUES:
            with self.subTest(value=repr(value)[:200]):
                self.check_program_told(program_error(value))
                self.check_asides_told(asides_error(PROGRAM, value))

    def test_no_value_in_a_place_of_a_program_raises_one(self):
        small = ((7,), ((1, (("try", (REST,), (1,), 0, (("call", 0, 0, (ONE,)),)),)), (0, (("get", 0, 0),))))
        for other in VALUES:
            for value in replaced(small, other):
                with self.subTest(value=repr(value)[:200]):
                    self.check_program_told(program_error(value))

    def test_no_value_in_a_place_of_asides_raises_one(self):
        for other in VALUES:
            for value in replaced((ASIDE,), other):
                with self.subTest(value=repr(value)[:200]):
                    self.check_asides_told(asides_error(PROGRAM, value))

    def test_a_thing_of_the_package(self):
        for value in (Unfit(), BadAside(0, "name")):
            self.assertEqual(program_error(value), "form")
            self.assertEqual(asides_error(PROGRAM, value), "form")
            self.assertEqual(program_error(((), ((0, (value,)),))), ((0, 0), "row"))
            self.assertEqual(asides_error(PROGRAM, (value,)), (0, "aside"))


class AnyChartOrTurning(unittest.TestCase):
    """In the place of a chart, of a turning, and of each thing in them."""

    PROGRAM = ((7,), ((0, (("tell", ONE),)), (0, (("call", 0, 0, ()), ("call", 0, 1, ())))))
    ASIDES = ((5, "around", (("tell", None),), ("row", (("any",), ("any",))), ONE, (("on", 0, ()),)),)
    WOVEN, CHART = weave(PROGRAM, ASIDES, ())

    def test_charts(self):
        for other in VALUES + (self.WOVEN, self.CHART, Bench(self.PROGRAM, ()), Unfit()):
            for value in replaced(self.CHART, other):
                with self.subTest(value=repr(value)[:200]):
                    told = chart_error(self.WOVEN, value)
                    self.assertTrue(told in (None, "form") or (told[0] == "copy" and told[1].__class__ is int))
                    answer = judge(self.PROGRAM, self.ASIDES, (), self.WOVEN, value)
                    if told is not None:
                        self.assertEqual(answer, ("chart", told))
                    elif answer is not None:
                        self.assertIn(answer[0], ("node", "entry", "chain"))

    def test_turnings(self):
        handed = (self.PROGRAM, self.ASIDES, (), self.WOVEN, self.CHART)
        at = [number for number, item in enumerate(self.CHART) if len(item) > 1][0]
        for turning in (("order", tuple(range(len(self.CHART)))), ("split", at, self.CHART[at][:1]), ("join", ((0, 1),)), ("drop",)):
            for other in VALUES + (self.WOVEN, self.CHART, Bench(self.PROGRAM, ()), Unfit()):
                for value in replaced(turning, other):
                    with self.subTest(value=repr(value)[:200]):
                        told = turning_error(*handed, value)
                        if told is None:
                            self.assertIsNone(judge(*handed[:3], *turned(*handed, value)))
                            continue
                        self.assertTrue(told in ("form", "copies", "nodes", "letters") or told[0] in ("mixed", "rows"))
                        with self.assertRaises(BadTurning) as caught:
                            turned(*handed, value)
                        self.assertEqual(caught.exception.error, told)


class AnyForBenches(unittest.TestCase):
    """In the place of each argument of each method."""

    CALLS = (
        ("row", (0, (0,), REST)), ("put", (0, ASIDES[1])), ("out", (0,)), ("swap", (0, 0)), ("batch", ((("out", 0), ("row", 0, (0,), REST)),)), ("at", (0,)), ("told", ((1, 2), 9)),
    )

    def test_benches(self):
        program = ((7, 8), ((0, (REST,)), (0, (REST,))) + AHEAD[2:] + ((0, (("tell", ONE),)),))
        for other in VALUES + (Bench(program, ()), Unfit()):
            for value in replaced((program, ()), other):
                try:
                    Bench(*value if isinstance(value, tuple) and len(value) == 2 else (value, value))
                except (BadAside, BadProgram):
                    pass
            for call, handed in self.CALLS:
                for value in replaced(handed, other):
                    if isinstance(value, tuple) and len(value) == len(handed):
                        bench = Bench(program, ASIDES[:1])
                        self.check(bench, call, value)

    def check(self, bench, call, handed):
        before = repr((bench.program, bench.asides, bench.version))
        with self.subTest(call=call, handed=repr(handed)[:200]):
            try:
                getattr(bench, call)(*handed)
            except AsideError:
                self.assertEqual(repr((bench.program, bench.asides, bench.version)), before)
            else:
                self.assertEqual(bench.version, 0 if call in ("at", "told") else 1)
                self.assertIsNone(program_error(bench.program))
                self.assertIsNone(asides_error(bench.program, bench.asides))

    def test_items_and_equality(self):
        bench = Bench(PROGRAM, ASIDES)
        for value in VALUES + (Bench(PROGRAM, ()), Unfit()):
            with self.subTest(value=repr(value)[:200]):
                self.assertIs(bench == value, False)
                self.assertIs(bench != value, True)
                if value.__class__ is not int:
                    with self.assertRaises(Unfit):
                        bench[value]

    def test_shells(self):
        told = Shell(), Shell()
        self.assertEqual(told[1].say("program " + program_text(PROGRAM)), "ok")
        for value in VALUES + (told[0], Unfit()):
            for shell in told:
                with self.subTest(value=repr(value)[:200]):
                    self.assertEqual(shell.say(value), "what")


class AnyText(unittest.TestCase):
    TEXTS = ("x" * 20000, "\n" * 20000, "(" * 20000, "if 1\n" * 4000, "cells 0" + "\nfunction 0\nend" * 1200, "~ !\n{}")

    def told(self, call, *handed):
        """What the call returns, or the error with its attributes."""
        try:
            return call(*handed)
        except (BadAside, BadProgram, BadText) as error:
            return (error.__class__.__name__, vars(error))

    def test_what_is_no_string(self):
        for value in VALUES:
            if not isinstance(value, str):
                with self.subTest(value=repr(value)[:200]):
                    self.assertEqual(self.told(parse_program, value), ("BadText", {"line": 0}))
                    self.assertEqual(self.told(parse_asides, PROGRAM, value), ("BadText", {"line": 0}))

    def test_what_is_a_string(self):
        for text in self.TEXTS + tuple(value for value in VALUES if isinstance(value, str)):
            with self.subTest(text=text[:200]):
                for call, handed in ((parse_program, (text,)), (parse_asides, (PROGRAM, text))):
                    told = self.told(call, *handed)
                    self.assertIs(told.__class__, tuple)
                    self.assertEqual(repr(self.told(call, *handed)), repr(told))

    def test_what_was_written(self):
        for _ in range(2):
            self.assertEqual(parse_program(program_text(PROGRAM)), PROGRAM)
            self.assertEqual(parse_asides(PROGRAM, asides_text(ASIDES)), ASIDES)
        self.assertEqual(self.told(parse_program, asides_text(ASIDES)), ("BadText", {"line": 0}))
        self.assertEqual(self.told(parse_asides, PROGRAM, program_text(PROGRAM)), ("BadText", {"line": 0}))


class NothingChanges(unittest.TestCase):
    def twice(self, call, *handed):
        """The call with what is handed tells the same twice, and leaves that as it was."""
        before, kept = repr(handed), copy.deepcopy(handed)
        told = repr(call(*handed))
        self.assertEqual(repr(call(*handed)), told)
        self.assertEqual(repr(handed), before)
        self.assertEqual(repr(call(*kept)), told)

    def test_errors(self):
        for value in VALUES:
            with self.subTest(value=repr(value)[:200]):
                self.twice(program_error, value)
                self.twice(program_error, ((0,), ((0, (value,)),)))
                self.twice(program_error, ((0,), ((0, (("if", ONE, (), (REST, value)),)),)))
                self.twice(asides_error, PROGRAM, value)
                self.twice(asides_error, PROGRAM, (ASIDE, value))
                self.twice(asides_error, PROGRAM, (ASIDE[:5] + ((REST, value),),))

    def test_what_is_in_programs_and_asides(self):
        for _, rows in PROGRAM[1]:
            self.twice(rows_of, rows)
        self.twice(letters_of, PROGRAM, ASIDES)
        for letter in letters_of(PROGRAM, ASIDES):
            self.twice(body_at, PROGRAM, ASIDES, letter)

    def test_an_error_raised_changes_nothing(self):
        before = repr((PROGRAM, ASIDES))
        for _ in range(2):
            with self.assertRaises(Unfit):
                body_at(PROGRAM, ASIDES, 5)
        self.assertEqual(repr((PROGRAM, ASIDES)), before)
        self.assertEqual(letters_of(PROGRAM, ASIDES), (-6, -3, 0, 1, 2, 3, 4))

    def test_by_name(self):
        for value in VALUES:
            with self.subTest(value=repr(value)[:200]):
                self.assertEqual(repr(program_error(value=value)), repr(program_error(value)))
                told = repr(asides_error(PROGRAM, value))
                self.assertEqual(repr(asides_error(program=PROGRAM, value=value)), told)
                self.assertEqual(repr(asides_error(value=value, program=PROGRAM)), told)

    def test_all_that_is_right_is_told_as_right(self):
        self.assertIsNone(program_error(PROGRAM))
        self.assertIsNone(asides_error(PROGRAM, ASIDES))
        self.assertIsNone(asides_error(PROGRAM, ASIDES[::-1]))


if __name__ == "__main__":
    unittest.main()
