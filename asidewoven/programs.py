"""Programs and asides: what is none, and what is in them ([A6], [A8] to [A10])."""

from asidewoven.bounds import MAX_ASIDES, MAX_CELLS, MAX_FUNCTIONS, MAX_ROWS, SLOTS
from asidewoven.errors import Unfit
from asidewoven.expressions import is_expression, is_number
from asidewoven.parts import is_part
from asidewoven.rows import Scope, inner_rows, wrong_place
from asidewoven.values import is_pair, is_place, is_tuple_of, is_within

FORMS = ("before", "behind", "around")
LAST_NAME = 99


def program_error(value):
    """None for a program, otherwise what is wrong with it first ([A9])."""
    if not is_pair(value):
        return "form"
    cells, functions = value
    if not is_tuple_of(cells, 0, MAX_CELLS) or not all([is_number(cell) for cell in cells]):
        return "cells"
    if not is_tuple_of(functions, 1, MAX_FUNCTIONS):
        return "functions"
    for f, function in enumerate(functions):
        if not _is_function(function, f == len(functions) - 1):
            return (f,), "function"
    return _rows_error(value)


def asides_error(program, value):
    """None for asides of the program, otherwise what is wrong with them first ([A9])."""
    if not is_tuple_of(value, 0, MAX_ASIDES):
        return "form"
    for place, item in enumerate(value):
        word = _aside_error(program, item)
        if word is not None:
            return place, word
    names = [aside[0] for aside in value]
    for place, name in enumerate(names):
        if name in names[:place]:
            return place, "name"
    return None


def rows_of(rows):
    """The pairs (place, row) of all rows of rows, those within rows too, ascending ([A10])."""
    found = []
    _find_rows(rows, (), found)
    return tuple(found)


def letters_of(program, asides):
    """The letters of all functions and asides, ascending ([A10])."""
    _, functions = program
    return tuple(sorted([letter_of(aside) for aside in asides] + list(range(len(functions)))))


def body_at(program, asides, letter):
    """The rows of the function or the aside that has the letter ([A10])."""
    _, functions = program
    if is_place(letter, len(functions)):
        _, rows = functions[letter]
        return rows
    for aside in asides:
        if letter_of(aside) == letter:
            return aside[5]
    raise Unfit()


def letter_of(aside):
    return -1 - aside[0]


def _is_function(value, is_main):
    """Whether value is a function as far as can be said without its rows."""
    if not is_pair(value):
        return False
    parameters, rows = value
    most = 0 if is_main else SLOTS
    return is_within(parameters, 0, most) and isinstance(rows, tuple)


def _rows_error(program):
    """What is wrong with the rows of all functions; the rest of the program is as it should be."""
    _, functions = program
    scope = _scope_in(program, False)
    for f, function in enumerate(functions):
        place = wrong_place(function[1], scope)
        if place is not None:
            return (f,) + place, "row"
    if sum([len(rows_of(rows)) for _, rows in functions]) > MAX_ROWS:
        return None, "rows"
    return None


def _scope_in(program, with_on):
    cells, functions = program
    return Scope(len(cells), tuple([parameters for parameters, _ in functions]), with_on)


def _find_rows(rows, ahead, found):
    """Adds to found all rows of rows; their places begin with ahead."""
    for number, row in enumerate(rows):
        place = ahead + (number,)
        found.append((place, row))
        for which, inner in enumerate(inner_rows(row)):
            _find_rows(inner, place + (which,), found)


def _aside_error(program, value):
    """The first word of what is wrong with an aside by itself, None if nothing is."""
    if not is_tuple_of(value, 6, 6) or not is_within(value[0], 0, LAST_NAME) or value[1] not in FORMS:
        return "aside"
    _, form, moments, part, test, rows = value
    if not _are_moments(program, moments):
        return "moments"
    if not is_part(part):
        return "part"
    if not is_expression(test):
        return "test"
    if not _are_aside_rows(program, form, rows):
        return "rows"
    return None


def _are_moments(program, value):
    return isinstance(value, tuple) and len(value) > 0 and all([_is_moment(program, item) for item in value])


def _is_moment(program, value):
    if not is_pair(value):
        return False
    cells, functions = program
    word, number = value
    if word == "call":
        return number is None or is_place(number, len(functions))
    if word in ("get", "put"):
        return number is None or is_place(number, len(cells))
    return word in ("tell", "ask") and number is None


def _are_aside_rows(program, form, value):
    if not isinstance(value, tuple) or wrong_place(value, _scope_in(program, form == "around")) is not None:
        return False
    return len(rows_of(value)) <= MAX_ROWS
