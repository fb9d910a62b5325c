"""Least machines: readers with as few states as can be ([C3])."""

from asidewoven.parts import inner_parts
from asidewoven.readers import Table, joined_reader, leaf_reader

# A reader of a part within others is made least if it has at most so many states; above it that would not pay.
MOST_TO_TRY = 256


def least_reader(part, firsts):
    """The reader of a part with as few states as can be, numbered in the order in which they first come."""
    return least_table(_outlined(part, firsts), len(firsts), None)


def small_reader(part, firsts):
    """A reader of a part; it has as few states as can be if there are few."""
    reader = _outlined(part, firsts)
    table = least_table(reader, len(firsts), MOST_TO_TRY)
    return reader if table is None else table


def least_table(reader, many, most):
    """The least table of a reader over so many groups; None if the reader has more than most states."""
    explored = _explored(reader, many, most)
    if explored is None:
        return None
    rows, fits = explored
    return _numbered(rows, fits, _lots(rows, fits), many)


def _outlined(part, firsts):
    inners = [small_reader(inner, firsts) for inner in inner_parts(part)]
    return joined_reader(part, inners) if len(inners) > 0 else leaf_reader(part, firsts)


def _explored(reader, many, most):
    """The rows and the fits of all states come to, numbered as they come; None if there are more than most."""
    numbers = {reader.start: 0}
    states = [reader.start]
    rows = []
    while len(rows) < len(states):
        if most is not None and len(states) > most:
            return None
        row = []
        for group in range(many):
            further = reader.behind(states[len(rows)], group)
            if further not in numbers:
                numbers[further] = len(states)
                states.append(further)
            row.append(numbers[further])
        rows.append(tuple(row))
    return rows, [reader.has(state) for state in states]


def _lots(rows, fits):
    """For each state the number of the lot of states that are alike."""
    lots = [1 if fit else 0 for fit in fits]
    known = 0
    # States of one lot stay together as long as each letter leads them to one lot; lots are only ever cut.
    while True:
        numbers = {}
        cut = []
        for state, row in enumerate(rows):
            marks = (lots[state],) + tuple([lots[further] for further in row])
            if marks not in numbers:
                numbers[marks] = len(numbers)
            cut.append(numbers[marks])
        if len(numbers) == known:
            return lots
        lots = cut
        known = len(numbers)


def _numbered(rows, fits, lots, many):
    """The table of the lots, numbered in the order in which they first come."""
    numbers = {lots[0]: 0}
    states = [0]
    told = []
    while len(told) < len(states):
        row = []
        for group in range(many):
            further = rows[states[len(told)]][group]
            if lots[further] not in numbers:
                numbers[lots[further]] = len(states)
                states.append(further)
            row.append(numbers[lots[further]])
        told.append(tuple(row))
    return Table(tuple(told), tuple([fits[state] for state in states]))
