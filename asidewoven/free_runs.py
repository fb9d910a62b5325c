"""Runs without numbers: what would hang on one is told by choices ([F1], [F2])."""

from asidewoven.engine import Engine, Fault, Stopped, expressions_in
from asidewoven.expressions import fault_kinds


class FreeRun(Engine):
    """A free run on a ground; all its numbers are 0, as they are nothing."""

    def __init__(self, ground, choices):
        super().__init__(ground)
        self.choices = choices
        self.taken = 0
        self.notes = []

    def result(self):
        """Does the run; returns its notes, and the pile at which it stops."""
        self.go()
        return tuple(self.notes), self.top_pile()

    def row_begun(self, body, row):
        """Steps are not counted."""

    def values_of(self, body, row):
        expressions = expressions_in(row)
        kinds = fault_kinds(expressions)
        if len(kinds) > 0:
            way = self.choose(("row", body.row_place()), len(kinds) + 1)
            if way > 0:
                raise Fault(kinds[way - 1])
        return (0,) * len(expressions)

    def goes_first(self, body, row, values):
        if row[1][0] == "n":
            return row[1][1] != 0
        return self.choose(("if", body.row_place()), 2) == 1

    def holds(self, link, values):
        test = self.ground.test(link)
        if test[0] == "n":
            return test[1] != 0
        return self.choose(("test", self.ground.name(link)), 2) == 1

    def may_begin(self, letter):
        return self.choose(("body", letter), 2) == 0

    def deed_done(self, kind, number, values):
        if kind == "ask" and self.choose(("ask",), 2) == 1:
            return "fault", 2
        self.notes.append(("deed", kind, number))
        return "answer", 0

    def body_ended(self, body):
        self.notes.append(("end", body.letter))

    def choose(self, note, ways):
        """Takes the next choice, one of so many ways; the run stops here if none is left."""
        self.notes.append(note)
        if self.taken == len(self.choices):
            raise Stopped()
        self.taken += 1
        return self.choices[self.taken - 1] % ways
