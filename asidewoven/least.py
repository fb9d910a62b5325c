"""Least machines: readers with as few states as can be ([C3])."""

from asidewoven.parts import inner_parts
from asidewoven.readers import Table, joined_reader, leaf_reader

# A reader of a part within others is made least if it has at most so many states; above it that would not pay.
MOST_TO_TRY = 256
# The states of a least table are compared with one another if they are at most so many.
MOST_TO_COMPARE = 32
# How often one letter is put on a pile to see that states are unlike.
FURTHER_LETTERS = 30


def least_reader(part, firsts, most):
    """The reader of a part with as few states as can be, numbered as they first come; None if that are more than most.

    firsts are the first letters of the groups.
    """
    reader = _outlined(part, firsts)
    table = _least_table(reader, len(firsts), MOST_TO_TRY)
    # All states of a reader can be very many; often a look at the first ones is enough.
    if table is None and not _are_surely_more(reader, len(firsts), most):
        table = _least_table(reader, len(firsts), None)
    return None if table is None or len(table.rows) > most else table


def small_reader(part, firsts):
    """A reader of a part; it has as few states as can be if there are few."""
    reader = _outlined(part, firsts)
    table = _least_table(reader, len(firsts), MOST_TO_TRY)
    if table is None:
        return reader
    if len(table.rows) <= MOST_TO_COMPARE:
        table.wider = _wider_states(table)
    return table


def _outlined(part, firsts):
    inners = [small_reader(inner, firsts) for inner in inner_parts(part)]
    return joined_reader(part, inners) if len(inners) > 0 else leaf_reader(part, firsts)


def _least_table(reader, many, most):
    """The least table of a reader over so many groups; None if the reader has more than most states."""
    states, rows = _explored(reader, many, most)
    if len(rows) < len(states):
        return None
    fits = [reader.has(state) for state in states]
    return _numbered(rows, fits, _lots(rows, fits), many)


def _explored(reader, many, most):
    """The states come to, and the rows of those with all states behind them, by their numbers in that order.

    If there are more than most states, these are not all.
    """
    numbers = {reader.start: 0}
    states = [reader.start]
    rows = []
    while len(rows) < len(states) and (most is None or len(states) <= most):
        row = []
        for group in range(many):
            further = reader.behind(states[len(rows)], group)
            if further not in numbers:
                numbers[further] = len(states)
                states.append(further)
            row.append(numbers[further])
        rows.append(tuple(row))
    return states, rows


def _are_surely_more(reader, many, most):
    """Whether more than most of the first states are unlike by what one letter, again and again, leads to."""
    states, _ = _explored(reader, many, MOST_TO_TRY)
    return len(set([_marks(reader, many, state) for state in states])) > most


def _marks(reader, many, state):
    marks = []
    for group in range(many):
        further = state
        for _ in range(FURTHER_LETTERS):
            marks.append(reader.has(further))
            further = reader.behind(further, group)
    return tuple(marks)


def _lots(rows, fits):
    """For each state the number of the lot of states that are alike."""
    lots = [1 if fit else 0 for fit in fits]
    known = 0
    # States of one lot stay together as long as each letter leads them to one lot; lots are only ever cut.
    while True:
        numbers = {}
        cut = []
        for state, row in enumerate(rows):
            marks = (lots[state],) + tuple([lots[further] for further in row])
            if marks not in numbers:
                numbers[marks] = len(numbers)
            cut.append(numbers[marks])
        if len(numbers) == known:
            return lots
        lots = cut
        known = len(numbers)


def _numbered(rows, fits, lots, many):
    """The table of the lots, numbered in the order in which they first come."""
    numbers = {lots[0]: 0}
    states = [0]
    told = []
    while len(told) < len(states):
        row = []
        for group in range(many):
            further = rows[states[len(told)]][group]
            if lots[further] not in numbers:
                numbers[lots[further]] = len(states)
                states.append(further)
            row.append(numbers[lots[further]])
        told.append(tuple(row))
    return Table(tuple(told), tuple([fits[state] for state in states]))


def _wider_states(table):
    """For each state of a least table the others that have all further piles that it has."""
    states = range(len(table.rows))
    pairs = {
        (state, other): True for state in states for other in states
        if state != other and (table.fits[other] or not table.fits[state])
    }
    # A pair stays as long as each letter leads it to one that stays, or to one state.
    many = len(pairs) + 1
    while len(pairs) < many:
        many = len(pairs)
        pairs = {(state, other): True for state, other in pairs if _stays(table, state, other, pairs)}
    return [tuple([other for other in states if (state, other) in pairs]) for state in states]


def _stays(table, state, other, pairs):
    return all([low == high or (low, high) in pairs for low, high in zip(table.rows[state], table.rows[other])])
