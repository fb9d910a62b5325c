"""Turnings of weavings: order, split, join and drop ([I1] to [I4])."""

from asidewoven.charts import is_item
from asidewoven.errors import BadTurning
from asidewoven.joins import join_error, joined
from asidewoven.remaking import dropped, ordered
from asidewoven.splits import Split
from asidewoven.values import is_ascending, is_integer, is_place


def turning_error(program, asides, begins, woven, chart, turning):
    """None for a turning that can be done, otherwise what is wrong with it first."""
    error, _ = _error_and_split(program, asides, begins, woven, chart, turning)
    return error


def turned(program, asides, begins, woven, chart, turning):
    """The pair of the weaving and the chart behind the turning."""
    error, split = _error_and_split(program, asides, begins, woven, chart, turning)
    if error is not None:
        raise BadTurning(error)
    if turning[0] == "order":
        return ordered(woven, chart, turning[1])
    if turning[0] == "join":
        return joined(woven, chart, turning[1])
    if turning[0] == "drop":
        return dropped(program, asides, begins, woven, chart)
    return split.result()


def _error_and_split(program, asides, begins, woven, chart, turning):
    """What is wrong with the turning, and the split that it makes; either is None if there is none."""
    if not _is_in_form(turning):
        return "form", None
    if turning[0] == "drop":
        return None, None
    if not _names_copies(turning, len(chart)):
        return "copies", None
    if turning[0] == "order":
        return None, None
    if turning[0] == "join":
        return join_error(woven, turning[1]), None
    _, copy, some = turning
    if not _are_some(woven, chart, copy, some):
        return "nodes", None
    split = Split((program, asides, begins), woven, chart, copy, some)
    return split.error, split


def _are_some(woven, chart, copy, some):
    """Whether some is an ascending tuple of nodes that the chart has at the copy, of one at least, but not of all."""
    _, tests, copies, _ = woven
    letter, _ = copies[copy]
    # Only in the form of an item it is sure that no True stands for 1, which it is equal to.
    if not is_item(some, letter, len(tests)) or len(some) == len(chart[copy]):
        return False
    return all([node in chart[copy] for node in some])


def _is_in_form(value):
    if not isinstance(value, tuple) or len(value) == 0:
        return False
    if value[0] == "order":
        return len(value) == 2 and _are_integers(value[1], 0)
    if value[0] == "split":
        return len(value) == 3 and is_integer(value[1]) and isinstance(value[2], tuple)
    if value[0] == "join":
        return len(value) == 2 and _are_lots(value[1])
    return value == ("drop",)


def _are_integers(value, fewest):
    """Whether value is a tuple of so many integers or more."""
    return isinstance(value, tuple) and len(value) >= fewest and all([is_integer(item) for item in value])


def _are_lots(value):
    return isinstance(value, tuple) and len(value) > 0 and all([_are_integers(lot, 2) for lot in value])


def _names_copies(turning, many):
    """Whether a turning in form names copies, of so many that there are, as it has to."""
    if turning[0] == "order":
        return sorted(turning[1]) == list(range(many))
    if turning[0] == "split":
        return is_place(turning[1], many)
    named = []
    for lot in turning[1]:
        named.extend(lot)
    if not all([is_place(copy, many) for copy in named]):
        return False
    return all([is_ascending(lot) for lot in turning[1]]) and len(set(named)) == len(named)
