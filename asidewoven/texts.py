"""Texts of programs and of asides ([A11] to [A14])."""

from asidewoven.checks import check_asides, check_program
from asidewoven.errors import BadText
from asidewoven.part_texts import moment_text, part_text, read_moments, read_part
from asidewoven.programs import FORMS
from asidewoven.row_texts import expression_text, line_of, lines_of, read_rows
from asidewoven.words import Lines


def program_text(program):
    cells, functions = program
    lines = [line_of(("cells",) + cells) if len(cells) > 0 else "cells none"]
    for parameters, rows in functions:
        lines.append(f"function {parameters}")
        lines.extend(lines_of(rows))
        lines.append("end")
    return "\n".join(lines)


def parse_program(value):
    """The program that a text tells."""
    if not isinstance(value, str):
        raise BadText(0)
    lines = Lines(value)
    cells = _read_cells(lines)
    functions = [_read_function(lines)]
    while not lines.is_over():
        functions.append(_read_function(lines))
    program = (cells, tuple(functions))
    check_program(program)
    return program


def asides_text(asides):
    lines = []
    for name, form, moments, part, test, rows in asides:
        lines.append(f"aside {name} {form}")
        lines.append(line_of(["moments"] + [moment_text(moment) for moment in moments]))
        lines.append(f"part {part_text(part)}")
        lines.append(f"test {expression_text(test)}")
        lines.extend(lines_of(rows))
        lines.append("end")
    return "\n".join(lines)


def parse_asides(program, value):
    """The asides of the program that a text tells."""
    if not isinstance(value, str):
        raise BadText(0)
    asides = _read_asides(value)
    check_asides(program, asides)
    return asides


def _read_cells(lines):
    words = lines.take_begun("cells")
    if words.next_is("none"):
        words.take()
        words.finish()
        return ()
    # Without cells there is the word none, so at least one number is due here.
    return (words.take_number(),) + words.take_numbers()


def _read_function(lines):
    words = lines.take_begun("function")
    parameters = words.take_number()
    words.finish()
    rows = read_rows(lines, False)
    lines.only("end")
    return parameters, rows


def _read_asides(text):
    # The text of no asides has no line at all; any other text has one at least.
    if text == "":
        return ()
    lines = Lines(text)
    asides = []
    while not lines.is_over():
        asides.append(_read_aside(lines))
    return tuple(asides)


def _read_aside(lines):
    words = lines.take_begun("aside")
    name = words.take_number()
    form = words.take_one_of(FORMS)
    words.finish()
    moments = read_moments(lines.take_begun("moments"))
    words = lines.take_begun("part")
    part = read_part(words)
    words.finish()
    words = lines.take_begun("test")
    test = words.take_expression()
    words.finish()
    rows = read_rows(lines, True)
    lines.only("end")
    return name, form, moments, part, test, rows
