"""Numbers, slots and expressions ([A4])."""

from asidewoven.bounds import MAX_NUMBER, SLOTS
from asidewoven.values import is_place, is_tuple_of, is_within

OPERATIONS = ("plus", "less", "times", "part", "below", "same")
EXPRESSION_DEPTH = 6


def is_number(value):
    return is_within(value, -MAX_NUMBER, MAX_NUMBER)


def is_slot(value):
    return is_place(value, SLOTS)


def is_expression(value, depth=EXPRESSION_DEPTH):
    """Whether value is an expression that is nested at most so deep."""
    if depth == 0 or not is_tuple_of(value, 2, 3):
        return False
    word = value[0]
    if len(value) == 2:
        return (word == "n" and is_number(value[1])) or (word == "v" and is_slot(value[1]))
    return word in OPERATIONS and is_expression(value[1], depth - 1) and is_expression(value[2], depth - 1)


def are_expressions(value):
    """Whether value is a tuple of expressions, no more than there are slots."""
    return is_tuple_of(value, 0, SLOTS) and all([is_expression(item) for item in value])


def fault_kinds(expressions):
    """The kinds of faults that reckoning these expressions can have, ascending."""
    words = []
    for expression in expressions:
        _find_operations(expression, words)
    kinds = []
    if "plus" in words or "less" in words or "times" in words:
        kinds.append(0)
    if "part" in words:
        kinds.append(1)
    return tuple(kinds)


def _find_operations(expression, words):
    """Adds to words the operations of an expression."""
    if len(expression) == 3:
        words.append(expression[0])
        _find_operations(expression[1], words)
        _find_operations(expression[2], words)
