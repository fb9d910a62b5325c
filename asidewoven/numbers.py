"""Runs with numbers: expressions, cells, inputs, steps ([B1], [B2], [B5], [B7])."""

from asidewoven.bodies import slots_with
from asidewoven.bounds import MAX_NUMBER, MAX_PILE
from asidewoven.engine import Engine, Fault, Stopped, expressions_in


class Run(Engine):
    """A run on a ground, with the cells that this tells, with inputs and at most so many steps."""

    def __init__(self, ground, inputs, steps):
        super().__init__(ground)
        self.cells = list(ground.cells)
        self.inputs = inputs
        self.asked = 0
        self.steps = steps
        self.done = 0
        self.events = []
        self.moments = []
        self.openings = []

    def result(self):
        """Does the run; returns what the document has it tell: events, end, steps done."""
        outcome = self.go()
        if outcome is None:
            return tuple(self.events), ("bound",), self.done
        word, number = outcome
        return tuple(self.events), ("answer" if word == "end" else word, number), self.done

    def row_begun(self, body, row):
        if self.done == self.steps:
            raise Stopped()
        self.done += 1

    def values_of(self, body, row):
        return tuple([reckoned(expression, body.slots) for expression in expressions_in(row)])

    def goes_first(self, body, row, values):
        return values[0] != 0

    def holds(self, link, values):
        """Whether the body of an aside is to be opened, by the test of the aside."""
        try:
            return reckoned(self.ground.test(link), slots_with(values)) != 0
        except Fault:
            return False

    def may_begin(self, letter):
        return len(self.bodies) < MAX_PILE

    def deed_done(self, kind, number, values):
        if kind == "get":
            return "answer", self.cells[number]
        if kind == "ask":
            return self._next_input()
        if kind == "put":
            self.cells[number] = values[0]
        else:
            self.events.append(("tell", values[0]))
        return "answer", values[0]

    def moment_begun(self, moment):
        self.moments.append(moment)

    def body_begun(self, body, moment):
        self.openings.append((body, moment))

    def _next_input(self):
        if self.asked == len(self.inputs):
            return "fault", 2
        self.asked += 1
        return "answer", self.inputs[self.asked - 1]


def reckoned(expression, slots):
    """The number of an expression; Fault is raised with the kind of its first fault."""
    if expression[0] == "n":
        return expression[1]
    if expression[0] == "v":
        return slots[expression[1]]
    word, first, second = expression
    a = reckoned(first, slots)
    b = reckoned(second, slots)
    if word == "part":
        if b == 0:
            raise Fault(1)
        return a // b
    if word in ("below", "same"):
        return 1 if (a < b if word == "below" else a == b) else 0
    number = _combined(word, a, b)
    if not -MAX_NUMBER <= number <= MAX_NUMBER:
        raise Fault(0)
    return number


def _combined(word, a, b):
    if word == "plus":
        return a + b
    return a - b if word == "less" else a * b
