"""Charts: which nodes each copy of a weaving stands for ([H1], [H2])."""

from asidewoven.values import is_ascending, is_integer, is_pair, is_place, is_tuple_of


def chart_error(woven, value):
    """None for a chart in form of the weaving, otherwise what is wrong with it first."""
    _, tests, copies, _ = woven
    if not is_tuple_of(value, len(copies), len(copies)):
        return "form"
    for place, (letter, _) in enumerate(copies):
        if not is_item(value[place], letter, len(tests)):
            return "copy", place
    return None


def is_item(value, letter, many):
    """Whether value is an item of a chart, for a copy with this letter and for so many tests."""
    if not isinstance(value, tuple) or len(value) == 0:
        return False
    if not all([_is_quadruple(quadruple, letter, many) for quadruple in value]):
        return False
    # Moments and rests are those of asides around in all of them, or in none; otherwise they could not be compared.
    without = [moment is None and rest == () for _, _, moment, rest in value]
    goes_on = [_is_moment(moment) and _are_places(rest, many) for _, _, moment, rest in value]
    return (all(without) or all(goes_on)) and is_ascending(value)


def _is_quadruple(value, letter, many):
    """Whether value is a quadruple with this letter and with so many states; moment and rest are not asked."""
    if not is_tuple_of(value, 4, 4):
        return False
    own, states, _, _ = value
    return is_integer(own) and own == letter and _are_states(states, many)


def _are_states(value, many):
    return is_tuple_of(value, many, many) and all([_is_from_nought(state) for state in value])


def _is_moment(value):
    if not is_pair(value):
        return False
    kind, number = value
    if kind in ("tell", "ask"):
        return number is None
    return kind in ("call", "get", "put") and _is_from_nought(number)


def _are_places(value, many):
    """Whether value is an ascending tuple of places of so many tests."""
    return isinstance(value, tuple) and all([is_place(place, many) for place in value]) and is_ascending(value)


def _is_from_nought(value):
    return is_integer(value) and value >= 0
