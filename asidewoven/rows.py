"""Rows of functions and asides: their table, and what is no row ([A5])."""

from asidewoven.expressions import are_expressions, is_expression, is_slot
from asidewoven.values import is_ascending, is_place, is_within

# What the items of each row have to be, those behind its word.
ROW_ITEMS = {
    "set": ("slot", "expression"),
    "ask": ("slot",),
    "get": ("slot", "cell"),
    "put": ("cell", "expression"),
    "call": ("slot", "function", "expressions"),
    "if": ("expression", "rows", "rows"),
    "try": ("rows", "kinds", "slot", "rows"),
    "tell": ("expression",),
    "answer": ("expression",),
    "rest": (),
    "fault": ("kind",),
    "on": ("slot", "expressions"),
}
ROW_DEPTH = 4
LAST_KIND = 9


class Scope:
    """What rows may speak of: so many cells, functions with these parameters, and on if with_on says so."""

    def __init__(self, cells, parameters, with_on):
        self.cells = cells
        self.parameters = parameters
        self.with_on = with_on


def is_kind(value):
    return is_within(value, 0, LAST_KIND)


def are_kinds(value):
    return isinstance(value, tuple) and all([is_kind(item) for item in value]) and is_ascending(value)


def inner_rows(row):
    """The rows within a row: those of an if or a try, first rows and second ones; none of any other row."""
    return tuple([item for sort, item in zip(ROW_ITEMS[row[0]], row[1:]) if sort == "rows"])


def with_inner_rows(row, inner):
    """An if or try with other rows within it."""
    waiting = list(inner)
    items = [row[0]]
    for sort, item in zip(ROW_ITEMS[row[0]], row[1:]):
        items.append(waiting.pop(0) if sort == "rows" else item)
    return tuple(items)


def changed_rows(rows, change, ahead=()):
    """Rows, each exchanged for what change(place, row) tells, those within a row ahead of it.

    ahead is what all places in rows begin with.
    """
    changed = []
    for number, row in enumerate(rows):
        place = ahead + (number,)
        inner = [changed_rows(further, change, place + (which,)) for which, further in enumerate(inner_rows(row))]
        changed.append(change(place, with_inner_rows(row, inner) if len(inner) > 0 else row))
    return tuple(changed)


def wrong_place(rows, scope, ahead=(), within=0):
    """The least place in rows at which there is no row, None if there is none.

    ahead is what all places in rows begin with, within how many rows they are in already.
    """
    for number, row in enumerate(rows):
        place = ahead + (number,)
        if not _is_row(row, scope):
            return place
        inner = inner_rows(row)
        if len(inner) > 0 and within == ROW_DEPTH:
            return place
        for which, further in enumerate(inner):
            wrong = wrong_place(further, scope, place + (which,), within + 1)
            if wrong is not None:
                return wrong
    return None


def _is_row(value, scope):
    """Whether value is as the table tells, whatever stands in the rows within it."""
    if not isinstance(value, tuple) or len(value) == 0:
        return False
    word = value[0]
    # Only a string is sure to be able to stand as a key: a list is not.
    if not isinstance(word, str) or word not in ROW_ITEMS:
        return False
    if word == "on" and not scope.with_on:
        return False
    return _items_fit(ROW_ITEMS[word], value[1:], scope) and (word != "call" or _is_handed_all(value, scope))


def _items_fit(sorts, items, scope):
    return len(items) == len(sorts) and all([_item_fits(sort, item, scope) for sort, item in zip(sorts, items)])


def _item_fits(sort, item, scope):
    if sort == "slot":
        return is_slot(item)
    if sort == "cell":
        return is_place(item, scope.cells)
    if sort == "function":
        return is_place(item, len(scope.parameters))
    if sort == "kind":
        return is_kind(item)
    if sort == "kinds":
        return are_kinds(item)
    if sort == "expression":
        return is_expression(item)
    if sort == "expressions":
        return are_expressions(item)
    return isinstance(item, tuple)


def _is_handed_all(call, scope):
    """Whether a call has as many expressions as the called function has parameters."""
    _, _, function, handed = call
    return len(handed) == scope.parameters[function]
