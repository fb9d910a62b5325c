"""Edits of a program and its asides, each one told by its word and by what it is handed ([L2])."""

from asidewoven.bounds import BATCH, MAX_ASIDES
from asidewoven.checks import check_asides, check_program
from asidewoven.errors import AsideError, Rejected, TooMany, Unfit
from asidewoven.programs import rows_of
from asidewoven.rows import changed_rows
from asidewoven.values import is_integer, is_place, is_tuple_of


def with_row(state, f, place, row):
    """The state with another row at a place in the rows of a function."""
    program, asides = state
    cells, functions = program
    if not is_place(f, len(functions)):
        raise Unfit()
    parameters, rows = functions[f]
    if not _is_place_in(rows, place):
        raise Unfit()
    changed = changed_rows(rows, lambda at, old: row if at == place else old)
    program = (cells, _with_item(functions, f, (parameters, changed)))
    check_program(program)
    return program, asides


def with_aside(state, place, aside):
    """The state with one aside more, at a place."""
    program, asides = state
    if not is_place(place, len(asides) + 1):
        raise Unfit()
    if len(asides) == MAX_ASIDES:
        raise TooMany(MAX_ASIDES)
    asides = asides[:place] + (aside,) + asides[place:]
    check_asides(program, asides)
    return program, asides


def without_aside(state, place):
    """The state without the aside at a place."""
    program, asides = state
    if not is_place(place, len(asides)):
        raise Unfit()
    return program, asides[:place] + asides[place + 1:]


def with_asides_swapped(state, place, further):
    """The state with the asides at two places exchanged."""
    program, asides = state
    if not is_place(place, len(asides)) or not is_place(further, len(asides)):
        raise Unfit()
    return program, _with_item(_with_item(asides, place, asides[further]), further, asides[place])


EDITS = {"row": with_row, "put": with_aside, "out": without_aside, "swap": with_asides_swapped}
# How many further items an edit with each word has.
HANDED = {"row": 3, "put": 2, "out": 1, "swap": 2}


def is_batch(value):
    """Whether value is a tuple of edits, not too many, whatever they are handed."""
    return is_tuple_of(value, 0, BATCH) and all([_is_edit(item) for item in value])


def edited(state, edit):
    """The state, a pair of a program and its asides, behind an edit."""
    action = EDITS[edit[0]]
    handed = edit[1:]
    return action(state, *handed)


def edited_all(state, edits):
    """The state behind all edits of a batch."""
    for index, edit in enumerate(edits):
        try:
            state = edited(state, edit)
        except AsideError:
            raise Rejected(index) from None
    return state


def _is_edit(value):
    if not isinstance(value, tuple) or len(value) == 0:
        return False
    word = value[0]
    # Only a string is sure to be able to stand as a key: a list is not.
    return isinstance(word, str) and word in HANDED and len(value) == 1 + HANDED[word]


def _is_place_in(rows, value):
    """Whether value is the place of a row of these rows."""
    if not isinstance(value, tuple) or not all([is_integer(number) for number in value]):
        return False
    return value in [place for place, _ in rows_of(rows)]


def _with_item(listed, at, item):
    """The tuple with another item at a place."""
    return listed[:at] + (item,) + listed[at + 1:]
