"""Open bodies of a run, moments, rests, and what waits for their outcomes ([B1], [B4] to [B6])."""

from asidewoven.bounds import SLOTS
from asidewoven.rows import inner_rows


class Level:
    """Rows that a body is doing; so many of them have begun.

    which tells whether they are the first (0) or the second (1) ones of a row; guard is the try that they are the first
    rows of, None if they are others.
    """

    def __init__(self, rows, which, guard):
        self.rows = rows
        self.which = which
        self.guard = guard
        self.begun = 0

    def last_row(self):
        """The row that has begun last."""
        return self.rows[self.begun - 1]


class Body:
    """An open body: its letter, the pile with this on top, its slots, and the rows that it is doing.

    spot is what the ground of the run knows it by; rest is what its on rows run, None if it is no around body.
    """

    def __init__(self, letter, spot, pile, slots, rest):
        self.letter = letter
        self.spot = spot
        self.pile = pile
        self.slots = slots
        self.rest = rest
        self.levels = []

    def begin(self, rows):
        self.levels = [Level(rows, 0, None)]

    def next_row(self):
        """Begins the next row and returns it; None at the end of the rows."""
        while self.levels[-1].begun == len(self.levels[-1].rows):
            if len(self.levels) == 1:
                return None
            # Only here rows are left: till then a fault of their last row is one of a row within their try.
            self.levels.pop()
        self.levels[-1].begun += 1
        return self.last_row()

    def last_row(self):
        """The row that has begun last."""
        return self.levels[-1].last_row()

    def row_place(self):
        """The place of the row that has begun last."""
        place = (self.levels[0].begun - 1,)
        for level in self.levels[1:]:
            place = place + (level.which, level.begun - 1)
        return place

    def enter(self, which):
        """Goes into the first or the second rows of the row that has begun last."""
        row = self.last_row()
        guard = row if row[0] == "try" and which == 0 else None
        self.levels.append(Level(inner_rows(row)[which], which, guard))

    def go_over(self, rows, spot):
        """Goes on at the same place in other rows, which are the same but for their chains."""
        self.spot = spot
        self.levels[0].rows = rows
        # The tries that guard levels stay: of them kinds and slots alone are read, which have no chains.
        for at in range(1, len(self.levels)):
            level = self.levels[at]
            level.rows = inner_rows(self.levels[at - 1].last_row())[level.which]

    def catch(self, kind):
        """Goes back to the innermost try that takes this fault; returns it, None if there is none."""
        while len(self.levels) > 0:
            guard = self.levels.pop().guard
            if guard is not None and kind in guard[2]:
                return guard
        return None


class Moment:
    """A moment that has begun; links are the asides that fit it."""

    def __init__(self, kind, number, handed, pile, links):
        self.kind = kind
        self.number = number
        self.handed = handed
        self.pile = pile
        self.links = links


class Rest:
    """What is left of a moment: links, a deed, and the values that they are run with."""

    def __init__(self, moment, links, deed, handed):
        self.moment = moment
        self.links = links
        self.deed = deed
        self.handed = handed

    def others(self):
        """The rest without its first link."""
        return Rest(self.moment, self.links[1:], self.deed, self.handed)


class Before:
    """Waits for the outcome of a before body; behind it the rest is run."""

    def __init__(self, rest):
        self.rest = rest


class Behind:
    """Waits for the outcome of the others of a rest whose first link is a behind aside."""

    def __init__(self, rest):
        self.rest = rest


class BehindBody:
    """Waits for the outcome of a behind body; outcome is that of the others."""

    def __init__(self, outcome):
        self.outcome = outcome


def slots_with(values):
    """The slots of a body to which these values are handed, as far as there are slots."""
    handed = list(values[:SLOTS])
    return handed + [0] * (SLOTS - len(handed))
