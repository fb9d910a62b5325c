"""What program_text and asides_text tell, and that it is read back: [A11], [A13], [A2] (a)."""

import itertools
import random
import unittest

from asidewoven.programs import asides_error, program_error
from asidewoven.texts import asides_text, parse_asides, parse_program, program_text
from making import Making
from samples import (
    MAIN, ONE, REST, RIGHT_EXPRESSIONS, RIGHT_ONS, RIGHT_ROWS, nested, program_of, wide, within_rows,
)

EXPRESSIONS = (
    (("n", 0), "0"),
    (("n", 7), "7"),
    (("n", -1), "-1"),
    (("n", 10 ** 18), "1000000000000000000"),
    (("n", -(10 ** 18)), "-1000000000000000000"),
    (("v", 0), "v0"),
    (("v", 7), "v7"),
    (("plus", ONE, ("v", 1)), "(plus 1 v1)"),
    (("less", ("v", 1), ONE), "(less v1 1)"),
    (("times", ("n", -3), ("v", 2)), "(times -3 v2)"),
    (("part", ("n", 0), ("n", 0)), "(part 0 0)"),
    (("below", ("v", 3), ("v", 4)), "(below v3 v4)"),
    (("same", ("plus", ONE, ONE), ("n", 2)), "(same (plus 1 1) 2)"),
    (("less", ONE, ("times", ("part", ("v", 0), ("n", 2)), ("v", 5))), "(less 1 (times (part v0 2) v5))"),
    (nested(6), "(plus (plus (plus (plus (plus v7 1) 1) 1) 1) 1)"),
    (nested(6, "same", 1), "(same 1 (same 1 (same 1 (same 1 (same 1 v7)))))"),
    (nested(3, "part", 2), "(part (part v7 v7) (part v7 v7))"),
)

ROWS = (
    (("set", 0, ONE), ["set 0 1"]),
    (("set", 7, ("plus", ONE, ("v", 7))), ["set 7 (plus 1 v7)"]),
    (("ask", 3), ["ask 3"]),
    (("get", 7, 1), ["get 7 1"]),
    (("put", 1, ("n", -5)), ["put 1 -5"]),
    (("call", 2, 0, ()), ["call 2 0"]),
    (("call", 7, 1, (ONE, ("same", ("v", 0), ONE))), ["call 7 1 1 (same v0 1)"]),
    (("call", 3, 2, (("v", 0),) * 8), ["call 3 2 v0 v0 v0 v0 v0 v0 v0 v0"]),
    (("if", ("v", 0), (), ()), ["if v0", "else", "end"]),
    (("if", ONE, (REST, ("ask", 0)), (REST,)), ["if 1", "rest", "ask 0", "else", "rest", "end"]),
    (("try", (), (), 0, ()), ["try", "catch 0", "end"]),
    (("try", (REST,), (0, 3, 9), 7, (("fault", 3), REST)), ["try", "rest", "catch 7 0 3 9", "fault 3", "rest", "end"]),
    (("tell", ("v", 0)), ["tell v0"]),
    (("answer", ("n", -2)), ["answer -2"]),
    (("rest",), ["rest"]),
    (("fault", 9), ["fault 9"]),
    (
        ("if", ONE, (("try", (REST,), (1,), 2, ()),), (("if", ("v", 1), (), (("fault", 0),)),)),
        ["if 1", "try", "rest", "catch 2 1", "end", "else", "if v1", "else", "fault 0", "end", "end"],
    ),
)

ONS = (
    (("on", 0, ()), "on 0"),
    (("on", 7, (ONE,)), "on 7 1"),
    (("on", 3, (("v", 0), ("less", ONE, ("v", 1)))), "on 3 v0 (less 1 v1)"),
    (("on", 1, (("n", -1),) * 8), "on 1" + 8 * " -1"),
)

PARTS = (
    (("none",), "none"),
    (("any",), "any"),
    (("letters", ()), "(letters)"),
    (("letters", (0,)), "(letters 0)"),
    (("letters", (11, -100, 0, -1, 0)), "(letters 11 -100 0 -1 0)"),
    (("row", (("any",),)), "(row any)"),
    (("row", (("any",), ("none",), ("letters", (3,)))), "(row any none (letters 3))"),
    (("or", (("any",), ("none",))), "(or any none)"),
    (("and", (("letters", ()), ("any",))), "(and (letters) any)"),
    (("not", ("none",)), "(not none)"),
    (("star", ("letters", (1, 2))), "(star (letters 1 2))"),
    (("not", ("star", ("or", (("row", (("any",), ("and", (("none",),)))),)))), "(not (star (or (row any (and none)))))"),
)

MOMENTS = (
    ((("call", 0),), "call 0"),
    ((("call", MAIN), ("call", None)), f"call {MAIN} call any"),
    ((("get", 1), ("put", 0)), "get 1 put 0"),
    ((("get", None), ("put", None)), "get any put any"),
    ((("tell", None), ("ask", None), ("tell", None)), "tell ask tell"),
    ((("ask", None), ("call", 0), ("tell", None)), "ask call 0 tell"),
)


def aside(name=0, form="around", moments=(("tell", None),), part=("any",), test=ONE, rows=()):
    return (name, form, moments, part, test, rows)


class Programs(unittest.TestCase):
    def check(self, program, lines):
        with self.subTest(program=repr(program)[:300]):
            self.assertIsNone(program_error(program))
            self.assertEqual(program_text(program).split("\n"), lines)
            self.assertEqual(repr(parse_program(program_text(program))), repr(program))

    def test_cells(self):
        for cells, line in (
            ((), "cells none"), ((0,), "cells 0"), ((-7, 7), "cells -7 7"), ((1,) * 8, "cells 1 1 1 1 1 1 1 1"),
            ((10 ** 18, -(10 ** 18)), "cells 1000000000000000000 -1000000000000000000"),
        ):
            self.check((cells, ((0, ()),)), [line, "function 0", "end"])

    def test_functions(self):
        self.check(((), ((8, (REST,)), (0, ()))), ["cells none", "function 8", "rest", "end", "function 0", "end"])
        self.check(((), ((0, ()),) * 12), ["cells none"] + ["function 0", "end"] * 12)

    def test_each_row(self):
        head = ["cells 5 -5", "function 0", "end", "function 2", "end", "function 8", "end", "function 0", "end"]
        for row, lines in ROWS:
            self.check(wide(row), head + ["function 0"] + lines + ["end"])
            self.check(wide(row, REST, row), head + ["function 0"] + lines + ["rest"] + lines + ["end"])

    def test_each_expression(self):
        for expression, text in EXPRESSIONS:
            self.check(program_of((("tell", expression),)), ["cells 5 -5", "function 0", f"tell {text}", "end"])
            self.check(
                program_of((("if", expression, (("set", 1, expression),), ()), ("put", 0, expression))),
                ["cells 5 -5", "function 0", f"if {text}", f"set 1 {text}", "else", "end", f"put 0 {text}", "end"],
            )

    def test_four_within_one_another(self):
        for ways in itertools.product(((0, "if"), (1, "if"), (0, "try"), (1, "try")), repeat=4):
            program = program_of((within_rows(REST, ways), REST))
            self.assertEqual(repr(parse_program(program_text(program))), repr(program))

    def test_most_rows(self):
        program = program_of((REST,) * 120)
        self.check(program, ["cells 5 -5", "function 0"] + ["rest"] * 120 + ["end"])


class Asides(unittest.TestCase):
    PROGRAM = wide()

    def check(self, asides, lines):
        with self.subTest(asides=repr(asides)[:300]):
            self.assertIsNone(asides_error(self.PROGRAM, asides))
            self.assertEqual(asides_text(asides).split("\n"), lines)
            self.assertEqual(repr(parse_asides(self.PROGRAM, asides_text(asides))), repr(asides))

    def test_none(self):
        self.assertEqual(asides_text(()), "")
        self.assertEqual(repr(parse_asides(self.PROGRAM, "")), "()")

    def test_each_form_and_name(self):
        for form in ("before", "behind", "around"):
            for name in (0, 9, 10, 99):
                self.check((aside(name, form),), [f"aside {name} {form}", "moments tell", "part any", "test 1", "end"])

    def test_several(self):
        self.check((aside(5, "before", rows=(REST,)), aside(3, "behind")), [
            "aside 5 before", "moments tell", "part any", "test 1", "rest", "end",
            "aside 3 behind", "moments tell", "part any", "test 1", "end",
        ])
        many = tuple(aside(name) for name in range(10))
        self.check(many, [
            line for name in range(10) for line in (f"aside {name} around", "moments tell", "part any", "test 1", "end")
        ])

    def test_each_moment(self):
        for moments, text in MOMENTS:
            self.check((aside(moments=moments),), ["aside 0 around", f"moments {text}", "part any", "test 1", "end"])

    def test_each_part(self):
        for part, text in PARTS:
            self.check((aside(part=part),), ["aside 0 around", "moments tell", f"part {text}", "test 1", "end"])

    def test_each_test(self):
        for test, text in EXPRESSIONS:
            self.check((aside(test=test),), ["aside 0 around", "moments tell", "part any", f"test {text}", "end"])

    def test_each_row(self):
        for row, lines in ROWS:
            for form in ("before", "behind", "around"):
                self.check((aside(0, form, rows=(row, REST)),), [
                    f"aside 0 {form}", "moments tell", "part any", "test 1"] + lines + ["rest", "end"])

    def test_ons(self):
        for row, line in ONS:
            self.check((aside(rows=(row, ("if", ONE, (row,), ()))),), [
                "aside 0 around", "moments tell", "part any", "test 1", line, "if 1", line, "else", "end", "end"])


class ReadBack(unittest.TestCase):
    def test_all_right_rows(self):
        program = wide(*RIGHT_ROWS)
        self.assertEqual(repr(parse_program(program_text(program))), repr(program))
        asides = (aside(3, rows=RIGHT_ROWS + RIGHT_ONS), aside(2, "before", rows=RIGHT_ROWS))
        self.assertEqual(repr(parse_asides(program, asides_text(asides))), repr(asides))

    def test_all_right_expressions(self):
        for expression in RIGHT_EXPRESSIONS:
            program = program_of((("answer", expression),))
            self.assertEqual(repr(parse_program(program_text(program))), repr(program))

    def test_what_is_made(self):
        for seed in range(300):
            making = Making(random.Random(seed), seed % 3, ((0,), (2, 0), (1, 8, 0))[seed % 3])
            program = making.program()
            asides = making.asides(program, seed % 5)
            with self.subTest(seed=seed):
                self.assertEqual(repr(parse_program(program_text(program))), repr(program))
                self.assertEqual(repr(parse_asides(program, asides_text(asides))), repr(asides))

    def test_by_name(self):
        program, asides = wide(), (aside(),)
        self.assertEqual(program_text(program=program), program_text(program))
        self.assertEqual(parse_program(value=program_text(program)), program)
        self.assertEqual(asides_text(asides=asides), asides_text(asides))
        self.assertEqual(parse_asides(value=asides_text(asides), program=program), asides)


if __name__ == "__main__":
    unittest.main()
