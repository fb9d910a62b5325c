"""Rows of a body with what matters of them to nodes ([E2], [E3])."""

from asidewoven.engine import expressions_in, moment_number
from asidewoven.expressions import fault_kinds
from asidewoven.rows import LAST_KIND, inner_rows

# The rows at which a moment begins, or goes on.
MOMENT_WORDS = ("get", "put", "call", "tell", "ask", "on")


class Plan:
    """A row at its place, the plans of the rows within it, and which of these begin.

    Kinds of faults are told as a number that has the bit of each kind: mask has those of the row's expressions,
    caught those that a try takes.
    """

    def __init__(self, row, place):
        self.item = row
        self.word = row[0]
        self.place = place
        self.faults = fault_kinds(expressions_in(row))
        self.mask = mask_of(self.faults)
        self.number = moment_number(row)
        self.first, self.second = (), ()
        self.begins_first, self.begins_second = True, True
        self.caught = 0
        if self.word in ("if", "try"):
            self.first, self.second = [plans_of(rows, place + (which,)) for which, rows in enumerate(inner_rows(row))]
        if self.word == "try":
            self.caught = mask_of(row[2])
        if self.word == "if" and row[1][0] == "n":
            self.begins_first = row[1][1] != 0
            self.begins_second = row[1][1] == 0


def plans_of(rows, ahead=()):
    """The plans of rows whose places begin with ahead."""
    return tuple([Plan(row, ahead + (number,)) for number, row in enumerate(rows)])


def moment_plans(plans):
    """The plans of the rows with a moment, those within rows too, ascending by their places."""
    found = []
    for plan in plans:
        if plan.word in MOMENT_WORDS:
            found.append(plan)
        found.extend(moment_plans(plan.first) + moment_plans(plan.second))
    return found


def mask_of(kinds):
    return sum([1 << kind for kind in kinds])


def kinds_in(mask):
    """The kinds that a mask has, ascending."""
    return tuple([kind for kind in range(LAST_KIND + 1) if mask & (1 << kind) != 0])
