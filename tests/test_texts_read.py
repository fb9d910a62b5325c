"""What parse_program and parse_asides refuse: [A12], [A14]."""

import re
import unittest

from asidewoven.errors import AsideError, BadAside, BadProgram, BadText
from asidewoven.programs import asides_error
from asidewoven.texts import asides_text, parse_asides, parse_program, program_text
from samples import NO_TUPLES, ONE, REST, nested, wide

NUMBER = r"(?:0|-?[1-9][0-9]{0,19})"
PLAIN = rf"(?:{NUMBER}|v{NUMBER})"
INNERMOST = re.compile(rf"\((?:plus|less|times|part|below|same) ((?:{PLAIN}|#\d)) ((?:{PLAIN}|#\d))\)")
WORDS = r"(?:call|get|put) (?:any|{0})|tell|ask".format(NUMBER)


def folded(line):
    """The line with each expression in brackets written as "#" and its depth; as it is where one is too deep."""
    def fold(found):
        depth = 1 + max(int(item[1:]) if item.startswith("#") else 1 for item in found.groups())
        return f"#{depth}" if depth <= 6 else found.group(0).replace("(", "[")

    while True:
        further = INNERMOST.sub(fold, line)
        if further == line:
            return line
        line = further


E = rf"(?:{PLAIN}|#[2-6])"
LINES = {
    "row": re.compile(
        rf"set {NUMBER} {E}|ask {NUMBER}|get {NUMBER} {NUMBER}|put {NUMBER} {E}|call {NUMBER} {NUMBER}(?: {E})*"
        rf"|tell {E}|answer {E}|rest|fault {NUMBER}"
    ),
    "on": re.compile(rf"on {NUMBER}(?: {E})*"),
    "if": re.compile(rf"if {E}"),
    "try": re.compile("try"),
    "catch": re.compile(rf"catch {NUMBER}(?: {NUMBER})*"),
    "else": re.compile("else"),
    "end": re.compile("end"),
    "cells": re.compile(rf"cells (?:none|{NUMBER}(?: {NUMBER})*)"),
    "function": re.compile(rf"function {NUMBER}"),
    "aside": re.compile(rf"aside {NUMBER} (?:before|behind|around)"),
    "moments": re.compile(rf"moments (?:{WORDS})(?: (?:{WORDS}))*"),
    "test": re.compile(rf"test {E}"),
}


def is_line(sort, line):
    # "#" is what expressions are folded to, so a line that has it by itself is none.
    return "#" not in line and LINES[sort].fullmatch(folded(line)) is not None


def first_wrong(lines, head, begin, with_on):
    """The first line that can't stand, by these lines of the head, those that begin a body, and rows."""
    waiting = list(head) + list(begin)
    inner = []
    in_rows = False
    for at, line in enumerate(lines):
        if not in_rows:
            if not waiting:
                waiting = list(begin)
            if not is_line(waiting.pop(0), line):
                return at
            in_rows = not waiting
        elif is_line("row", line) or (with_on and is_line("on", line)):
            pass
        elif is_line("if", line) or is_line("try", line):
            if len(inner) == 4:
                return at
            inner.append("else" if line.startswith("if") else "catch")
        elif inner and inner[-1] != "end" and is_line(inner[-1], line):
            inner[-1] = "end"
        elif is_line("end", line) and (not inner or inner[-1] == "end"):
            if inner:
                inner.pop()
            else:
                in_rows = False
        else:
            return at
    return len(lines) if in_rows or waiting else None


PROGRAM = wide(
    ("set", 0, ("plus", ONE, ("v", 1))),
    ("if", ("below", ("v", 0), ("n", -2)), (REST, ("call", 0, 1, (ONE, ("v", 0)))), (("get", 2, 1),)),
    ("try", (("ask", 1),), (1, 4), 3, (("fault", 9), ("if", ("v", 1), (), (REST,)))),
    ("put", 0, ("v", 0)),
    ("tell", ("same", ("less", ONE, ("v", 7)), ("n", 0))),
)
ASIDES = (
    (5, "before", (("call", None), ("get", 0)), ("star", ("any",)), ("v", 0), (("tell", ONE),)),
    (2, "around", (("tell", None),), ("row", (("letters", (0, -3)), ("not", ("none",)))), ("same", ONE, ("v", 1)), (
        ("on", 0, ()), ("try", (("on", 1, (ONE, ("v", 2))),), (2,), 0, (("answer", ("v", 1)),)),
    )),
)

# Lines that are put among others, at each place.
PUT_IN = (
    "", " ", "rest", "Rest", "rest ", " rest", "rest rest", "else", "end", "end ", "try", "try 1", "catch", "catch 1",
    "catch 1 2", "catch -1 -2 3", "catch 01", "if", "if 1", "if 1 2", "if v0 else", "on 0", "on 0 1 v1", "on",
    "cells none", "cells", "cells 1", "cells 1 none", "function 0", "function", "function -9", "function 0 0",
    "function 00", "aside 5 before", "aside 5 under", "aside before", "aside -5 behind", "moments", "moments tell",
    "moments call", "moments call any", "moments tell any", "part any", "part", "test 1", "test", "set 0 1", "set 0",
    "set 0 1 2", "set v0 1", "set -8 -0", "set 8 1", "ask", "ask 0 0", "ask v0", "get 0", "get 0 0", "get 0 0 0",
    "get 99999999999999999999 1", "get 100000000000000000000 1", "put 0", "put 0 0", "put v0 0", "put 0 0 0",
    "put -99999999999999999999 -99999999999999999999", "put 0 -100000000000000000000", "call 0", "call 0 0",
    "call 0 0 1 2 3 4 5 6 7 8 9 10", "call 0 v0", "tell", "tell 1", "tell 1 1", "tell  1", "tell\t1", "tell 01",
    "tell -0", "tell -01", "tell +1", "tell - 1", "tell --1", "tell 1.0", "tell 1e3", "tell v", "tell v-3", "tell v-0",
    "tell v01", "tell vv1", "tell v 1", "tell V1", "tell -v1", "tell n", "tell v99999999999999999999",
    "tell v100000000000000000000", "tell (plus 1 1)", "tell (plus 1 1) 1", "tell (plus 1)", "tell (plus 1 1 1)",
    "tell (plus  1 1)", "tell ( plus 1 1)", "tell (plus 1 1 )", "tell (plus 1 1", "tell plus 1 1)", "tell plus 1 1",
    "tell ((plus 1 1))", "tell (plus(plus 1 1) 1)", "tell (plus 1 (plus 1 1))", "tell (plus (plus 1 1)(plus 1 1))",
    "tell (add 1 1)", "tell (n 1)", "tell (1)", "tell ()", "tell (Plus 1 1)", "tell [plus 1 1]", "answer", "answer v0",
    "answer (part 1 0)", "fault", "fault 3", "fault -3", "fault 10", "fault v1", "fault 3 3", "goto 1", "none", "any",
    "0", "v0", "(plus 1 1)", "set", "#2", "tell #2",
)


class Spoilt(unittest.TestCase):
    """Texts of which one line or more are spoilt, compared with what first_wrong tells."""

    def check(self, lines):
        raise NotImplementedError

    def spoil(self, lines):
        """Each text that comes of one change of a line."""
        for at, line in enumerate(lines):
            yield lines[:at] + lines[at + 1:]
            yield lines[:at]
            yield lines[:at] + [line] + lines[at:]
            for further in range(at):
                yield lines[:further] + [line] + lines[further + 1:at] + [lines[further]] + lines[at + 1:]
            for changed in (
                line + " ", " " + line, line.replace(" ", "  ", 1) + "", line + " 1", line + " x", line.upper(),
                line[:-1], line[1:], line + "\r", line + ")", "(" + line, line.replace("0", "00", 1),
                line.replace("1", "-1", 1), line.replace("1", "11111111111111111111", 1),
                line.replace("1", "111111111111111111111", 1), line.replace(")", "", 1), line.replace("v", "", 1),
            ):
                yield lines[:at] + [changed] + lines[at + 1:]
        for at in range(len(lines) + 1):
            for line in PUT_IN:
                yield lines[:at] + [line] + lines[at:]
                yield lines[:at] + [line] + lines[at + 1:]


class SpoiltPrograms(Spoilt):
    def check(self, lines):
        wanted = first_wrong(lines, ("cells",), ("function",), False)
        with self.subTest(lines=lines):
            try:
                parse_program("\n".join(lines))
                told = None
            except BadText as error:
                self.assertIs(error.__class__, BadText)
                told = error.line
            except BadProgram:
                told = None
            self.assertEqual(repr(told), repr(wanted))

    def test_a_line_is_spoilt(self):
        for lines in self.spoil(program_text(PROGRAM).split("\n")):
            self.check(lines)

    def test_the_text_itself(self):
        self.check(program_text(PROGRAM).split("\n"))
        self.assertEqual(repr(parse_program(program_text(PROGRAM))), repr(PROGRAM))


class SpoiltAsides(Spoilt):
    PARTS = {"part any", "part (star any)", "part (row (letters 0 -3) (not none))"}

    def check(self, lines):
        # Parts have tests of their own; here a line "part" can stand if it is one of these.
        LINES["part"] = re.compile("|".join(re.escape(line) for line in self.PARTS))
        wanted = first_wrong(lines, (), ("aside", "moments", "part", "test"), True) if lines else None
        with self.subTest(lines=lines):
            try:
                parse_asides(PROGRAM, "\n".join(lines))
                told = None
            except BadText as error:
                self.assertIs(error.__class__, BadText)
                told = error.line
            except BadAside:
                told = None
            self.assertEqual(repr(told), repr(wanted))

    def test_a_line_is_spoilt(self):
        for lines in self.spoil(asides_text(ASIDES).split("\n")):
            if not any("part (" in line and line not in self.PARTS and "1" in line for line in lines):
                self.check(lines)

    def test_the_text_itself(self):
        self.check(asides_text(ASIDES).split("\n"))
        self.assertEqual(repr(parse_asides(PROGRAM, asides_text(ASIDES))), repr(ASIDES))


class Refusing(unittest.TestCase):
    def refuse(self, call, wanted):
        """The call raises this error, with these attributes."""
        with self.assertRaises(AsideError) as caught:
            call()
        self.assertIs(caught.exception.__class__, wanted.__class__)
        self.assertEqual(repr(vars(caught.exception)), repr(vars(wanted)))

    def refuse_program(self, text, wanted):
        with self.subTest(text=repr(text)[:300]):
            self.refuse(lambda: parse_program(text), wanted)

    def refuse_asides(self, text, wanted):
        with self.subTest(text=repr(text)[:300]):
            self.refuse(lambda: parse_asides(PROGRAM, text), wanted)


class WholeTexts(Refusing):
    def test_no_string(self):
        for value in [value for value in NO_TUPLES if not isinstance(value, str)] + [(), ("cells none",), PROGRAM, ASIDES]:
            self.refuse_program(value, BadText(0))
            self.refuse_asides(value, BadText(0))

    def test_no_line_or_empty_ones(self):
        for text in ("", "\n", "\n\n"):
            self.refuse_program(text, BadText(0))
        for text in ("\n", "\n\n", " "):
            self.refuse_asides(text, BadText(0))

    def test_a_text_that_ends_too_early(self):
        self.refuse_program("cells none", BadText(1))
        self.refuse_program("cells none\nfunction 0", BadText(2))
        self.refuse_program("cells none\nfunction 0\nif 1", BadText(3))
        self.refuse_program("cells none\nfunction 0\ntry\ncatch 1\nend", BadText(5))
        self.refuse_asides("aside 1 before", BadText(1))
        self.refuse_asides("aside 1 before\nmoments tell\npart any\ntest 1", BadText(4))

    def test_a_line_feed_at_the_end(self):
        self.refuse_program(program_text(PROGRAM) + "\n", BadText(len(program_text(PROGRAM).split("\n"))))
        self.refuse_asides(asides_text(ASIDES) + "\n", BadText(len(asides_text(ASIDES).split("\n"))))

    def test_other_signs_that_part_lines(self):
        self.refuse_program("cells none\r\nfunction 0\r\nend", BadText(0))
        self.refuse_program("cells none\x0bfunction 0\x0bend", BadText(0))

    def test_deep_texts(self):
        self.refuse_program("cells none\nfunction 0\ntell " + "(plus " * 3000, BadText(2))
        self.refuse_program("cells none\nfunction 0\n" + "if 1\n" * 3000, BadText(6))
        self.refuse_asides("aside 1 before\nmoments tell\npart " + "(not " * 3000, BadText(2))
        self.refuse_asides("aside 1 before\nmoments tell\npart any\ntest " + "(same 1 " * 2000, BadText(3))

    def test_long_lines(self):
        self.refuse_program("cells " + "1" * 19000, BadText(0))
        self.refuse_program("cells 1" + " 1" * 5000 + "\nfunction 0\nend", BadProgram("cells"))

    def test_the_first_line_goes_ahead(self):
        self.refuse_program("cells 01\nfunction x\nend", BadText(0))
        self.refuse_program("cells 1\nfunction x\nrust\nend", BadText(1))
        self.refuse_program("cells 1 1 1 1 1 1 1 1 1\nfunction 0\nrust\nend", BadText(2))


class Numbers(Refusing):
    def test_figures(self):
        for word in ("9" * 20, "-" + "9" * 20, "1" + "0" * 19, "8", "-1"):
            self.refuse_program(f"cells none\nfunction 0\nset {word} 1\nend", BadProgram(((0, 0), "row")))
            self.refuse_program(f"cells none\nfunction {word}\nend", BadProgram(((0,), "function")))
        for word in ("9" * 21, "-" + "9" * 21, "1" + "0" * 20, "00", "01", "-0", "-01", "+1", "", "-", "a", "1a", "0x1", "1_0"):
            self.refuse_program(f"cells none\nfunction 0\nset {word} 1\nend", BadText(2))
            self.refuse_program(f"cells none\nfunction {word}\nend", BadText(1))
            self.refuse_program(f"cells {word}\nfunction 0\nend", BadText(0))

    def test_cells(self):
        for word in ("1" + "0" * 18, "-1" + "0" * 18):
            self.assertEqual(parse_program(f"cells {word}\nfunction 0\nend")[0], (int(word),))
        for word in ("1" + "0" * 17 + "1", "1" + "0" * 19, "-1000000000000000001"):
            if abs(int(word)) > 10 ** 18:
                self.refuse_program(f"cells {word}\nfunction 0\nend", BadProgram("cells"))
        self.refuse_program("cells 1000000000000000001\nfunction 0\nend", BadProgram("cells"))

    def test_names_letters_and_moments(self):
        head = "aside {} before\nmoments call {}\npart (letters {})\ntest {}\nend"
        self.assertEqual(len(parse_asides(PROGRAM, head.format(0, 0, -100, 0))), 1)
        for words, wanted in (
            (("-1", 0, 0, 0), BadAside(0, "aside")), (("9" * 20, 0, 0, 0), BadAside(0, "aside")),
            ((0, "-1", 0, 0), BadAside(0, "moments")), ((0, "9" * 20, 0, 0), BadAside(0, "moments")),
            ((0, 0, "12", 0), BadAside(0, "part")), ((0, 0, "-101", 0), BadAside(0, "part")),
            ((0, 0, "-" + "9" * 20, 0), BadAside(0, "part")), ((0, 0, 0, "v-3"), BadAside(0, "test")),
            ((0, 0, 0, "9" * 20), BadAside(0, "test")),
            (("9" * 21, 0, 0, 0), BadText(0)), (("-0", 0, 0, 0), BadText(0)), ((0, "9" * 21, 0, 0), BadText(1)),
            ((0, "00", 0, 0), BadText(1)), ((0, 0, "-0", 0), BadText(2)), ((0, 0, "9" * 21, 0), BadText(2)),
            ((0, 0, 0, "01"), BadText(3)), ((0, 0, 0, "-0"), BadText(3)),
        ):
            self.refuse_asides(head.format(*words), wanted)


class Depths(Refusing):
    def text(self, expression):
        return program_text(((), ((0, (("tell", expression),)),)))

    def test_expressions(self):
        for side in (0, 1, 2):
            for op in ("plus", "same", "part"):
                self.assertEqual(parse_program(self.text(nested(6, op, side)))[1][0][1][0][1], nested(6, op, side))
                self.refuse_program(self.text(nested(7, op, side)), BadText(2))

    def test_expressions_of_calls_and_tests(self):
        deep = self.text(nested(7)).split("\n")[2][len("tell "):]
        self.refuse_program(f"cells none\nfunction 0\ncall 0 0 1 {deep}\nend", BadText(2))
        self.refuse_asides(f"aside 1 before\nmoments tell\npart any\ntest {deep}\nend", BadText(3))
        self.refuse_asides(f"aside 1 around\nmoments tell\npart any\ntest 1\non 0 1 {deep}\nend", BadText(4))

    def test_rows_within_rows(self):
        for words in (("if 1",) * 5, ("try",) * 5, ("if 1", "try", "if 1", "try", "if 1")):
            lines = ["cells none", "function 0"]
            closing = []
            for word in words[:4]:
                lines.append(word)
                closing = (["else", "end"] if word == "if 1" else ["catch 0", "end"]) + closing
            text = "\n".join(lines + ["rest"] + closing + ["end"])
            self.assertEqual(program_text(parse_program(text)), text)
            self.refuse_program("\n".join(lines + [words[4]] + closing + ["end"]), BadText(6))
            self.refuse_program("\n".join(lines + ["rest"] + closing[:1] + [words[4]] + closing[1:] + ["end"]), BadText(8))

    def test_parts(self):
        for word in ("not", "star", "row", "or", "and"):
            deep = f"({word} " * 5 + "any" + ")" * 5
            self.assertEqual(len(parse_asides(PROGRAM, self.with_part(deep))), 1)
            self.refuse_asides(self.with_part(f"({word} {deep})"), BadText(2))
            self.refuse_asides(self.with_part(f"(row any none {deep})"), BadText(2))

    def with_part(self, part):
        return f"aside 1 before\nmoments tell\npart {part}\ntest 1\nend"

    def test_no_parts(self):
        for part in (
            "", "(row)", "(or)", "(and)", "(not)", "(star)", "(not any any)", "(star any none)", "(none)", "(any)", "()",
            "row", "letters", "(letters", "letters)", "(letters any)", "(letters v0)", "(letters (letters))", "any any",
            "(row any", "row any)", "(row any))", "((row any))", "(row  any)", "( row any)", "(row any )", "(row(any))",
            "(any any)", "(letters  1)", "(letters 1 )", "(letters 01)", "(row 1)", "(not 1)", "none ", " none", "all",
            "(xor any any)", "1", "(Row any)", "Any",
        ):
            self.refuse_asides(self.with_part(part), BadText(2))

    def test_many_parts_and_letters(self):
        self.assertEqual(len(parse_asides(PROGRAM, self.with_part("(row" + " any" * 15 + ")"))), 1)
        self.refuse_asides(self.with_part("(row" + " any" * 16 + ")"), BadAside(0, "part"))
        self.refuse_asides(self.with_part("(row" + " any" * 3000 + ")"), BadAside(0, "part"))
        self.assertEqual(len(parse_asides(PROGRAM, self.with_part("(letters" + " 11 -100" * 1000 + ")"))), 1)


class NoProgramOrAsides(Refusing):
    def test_programs(self):
        for text, error in (
            ("cells 1 1 1 1 1 1 1 1 1\nfunction 1\nend", "cells"),
            ("cells none" + "\nfunction 0\nend" * 13, "functions"),
            ("cells none\nfunction 9\nend\nfunction 0\nend", ((0,), "function")),
            ("cells none\nfunction 0\nend\nfunction 1\nend", ((1,), "function")),
            ("cells none\nfunction -1\nend", ((0,), "function")),
            ("cells none\nfunction 0\nget 0 0\nend", ((0, 0), "row")),
            ("cells none\nfunction 0\nrest\ncall 0 0 1 2 3 4 5 6 7 8 9 10\nend", ((0, 1), "row")),
            ("cells none\nfunction 0\ncall 0 0 1\nend", ((0, 0), "row")),
            ("cells none\nfunction 0\ntell v-3\nend", ((0, 0), "row")),
            ("cells none\nfunction 0\ntell v8\nend", ((0, 0), "row")),
            ("cells none\nfunction 0\ntry\ncatch 0 2 1\nend\nend", ((0, 0), "row")),
            ("cells none\nfunction 0\ntry\ncatch 0 1 1\nend\nend", ((0, 0), "row")),
            ("cells none\nfunction 0\nif 1\nelse\nfault 10\nend\nend", ((0, 0, 1, 0), "row")),
            ("cells none\nfunction 0" + "\nrest" * 121 + "\nend", (None, "rows")),
        ):
            self.refuse_program(text, BadProgram(error))

    def test_asides(self):
        body = "\nmoments tell\npart any\ntest 1\nend"
        for text, wanted in (
            ("\n".join(f"aside {name} before{body}" for name in range(11)), BadAside(None, "form")),
            (f"aside 100 before{body}", BadAside(0, "aside")),
            (f"aside 1 before{body}\naside -1 behind{body}", BadAside(1, "aside")),
            (f"aside 1 before{body}\naside 1 behind{body}", BadAside(1, "name")),
            ("aside 1 before\nmoments get 2\npart any\ntest 1\nend", BadAside(0, "moments")),
            ("aside 1 before\nmoments call 5\npart any\ntest 1\nend", BadAside(0, "moments")),
            ("aside 1 before\nmoments tell\npart any\ntest v8\nend", BadAside(0, "test")),
            ("aside 1 before\nmoments tell\npart any\ntest 1\non 0\nend", BadAside(0, "rows")),
            ("aside 1 behind\nmoments tell\npart any\ntest 1\nrest\non 0\nend", BadAside(0, "rows")),
            ("aside 1 around\nmoments tell\npart any\ntest 1\non 0 1 2 3 4 5 6 7 8 9\nend", BadAside(0, "rows")),
            ("aside 1 around\nmoments tell\npart any\ntest 1" + "\nrest" * 121 + "\nend", BadAside(0, "rows")),
            ("aside 1 around\nmoments tell\npart any\ntest 1\ncall 0 1 1\nend", BadAside(0, "rows")),
        ):
            self.refuse_asides(text, wanted)

    def test_by_the_program_handed_in(self):
        text = "aside 1 before\nmoments get 0\npart any\ntest 1\nend"
        self.assertEqual(parse_asides(PROGRAM, text)[0][2], (("get", 0),))
        self.refuse(lambda: parse_asides(((), ((0, ()),)), text), BadAside(0, "moments"))
        self.assertIsNone(asides_error(PROGRAM, ASIDES))


if __name__ == "__main__":
    unittest.main()
