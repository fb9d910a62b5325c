"""Runs and piles once more, written straight from the document's words, to compare the package with.

All of it goes down by calls as the words do, so it is for short piles and small programs.
"""

BIGGEST = 10 ** 18


class Over(Exception):
    """The steps are used up."""


class Faulty(Exception):
    def __init__(self, kind):
        self.kind = kind


class Answered(Exception):
    def __init__(self, number):
        self.number = number


def cuts(pile):
    return [(pile[:at], pile[at:]) for at in range(len(pile) + 1)]


def has(part, pile):
    word = part[0]
    if word == "none":
        return pile == ()
    if word == "any":
        return len(pile) == 1
    if word == "letters":
        return len(pile) == 1 and pile[0] in part[1]
    if word == "row":
        if len(part[1]) == 1:
            return has(part[1][0], pile)
        return any(has(part[1][0], low) and has(("row", part[1][1:]), high) for low, high in cuts(pile))
    if word == "or":
        return any(has(inner, pile) for inner in part[1])
    if word == "and":
        return all(has(inner, pile) for inner in part[1])
    if word == "not":
        return not has(part[1], pile)
    return pile == () or any(has(part[1], low) and has(part, high) for low, high in cuts(pile)[1:])


def fits(asides, kind, number, pile):
    return tuple(
        place for place, (_, _, pairs, part, _, _) in enumerate(asides)
        if ((kind, number) in pairs or (kind, None) in pairs) and has(part, pile)
    )


def reckon(expression, slots):
    word = expression[0]
    if word == "n":
        return expression[1]
    if word == "v":
        return slots[expression[1]]
    a = reckon(expression[1], slots)
    b = reckon(expression[2], slots)
    if word == "below":
        return int(a < b)
    if word == "same":
        return int(a == b)
    if word == "part":
        if b == 0:
            raise Faulty(1)
        return a // b
    number = {"plus": a + b, "less": a - b, "times": a * b}[word]
    if abs(number) > BIGGEST:
        raise Faulty(0)
    return number


class Oracle:
    """One run of a program with asides."""

    def __init__(self, program, asides, inputs, steps):
        self.cells = list(program[0])
        self.functions = program[1]
        self.asides = asides
        self.inputs = list(inputs)
        self.steps = steps
        self.done = 0
        self.pile = ()
        self.events, self.moments, self.openings = [], [], []
        self.end = self.finish()

    def finish(self):
        try:
            word, number = self.body(len(self.functions) - 1, self.functions[-1][1], (), None)
            return ("fault" if word == "fault" else "answer", number)
        except Over:
            return ("bound",)

    def body(self, letter, rows, values, around):
        """The outcome of a body opened with these values: ("end", 0) if it comes to the end of its rows."""
        if len(self.pile) == 60:
            return ("fault", 3)
        slots = (list(values) + [0] * 8)[:8]
        self.pile += (letter,)
        self.openings.append(self.pile)
        try:
            self.rows(rows, slots, around)
            outcome = ("end", 0)
        except Faulty as faulty:
            outcome = ("fault", faulty.kind)
        except Answered as answered:
            outcome = ("answer", answered.number)
        self.pile = self.pile[:-1]
        return outcome

    def rows(self, rows, slots, around):
        for row in rows:
            if self.done == self.steps:
                raise Over()
            self.done += 1
            self.row(row, slots, around)

    def row(self, row, slots, around):
        word = row[0]
        if word == "set":
            slots[row[1]] = reckon(row[2], slots)
        elif word == "fault":
            raise Faulty(row[1])
        elif word == "answer":
            raise Answered(reckon(row[1], slots))
        elif word == "if":
            self.rows(row[2] if reckon(row[1], slots) != 0 else row[3], slots, around)
        elif word == "try":
            self.attempt(row, slots, around)
        elif word == "get":
            slots[row[1]] = self.moment("get", row[2], ())
        elif word == "put":
            self.moment("put", row[1], (reckon(row[2], slots),))
        elif word == "call":
            slots[row[1]] = self.moment("call", row[2], tuple(reckon(item, slots) for item in row[3]))
        elif word == "tell":
            self.moment("tell", None, (reckon(row[1], slots),))
        elif word == "ask":
            slots[row[1]] = self.moment("ask", None, ())
        elif word == "on":
            kind, number, others, values = around
            told = tuple(reckon(item, slots) for item in row[2])
            handed = tuple(told[at] if at < len(told) else values[at] for at in range(len(values)))
            slots[row[1]] = self.answer_of(self.rest(kind, number, others, handed))

    def attempt(self, row, slots, around):
        try:
            self.rows(row[1], slots, around)
        except Faulty as faulty:
            if faulty.kind not in row[2]:
                raise
            slots[row[3]] = faulty.kind
        else:
            return
        self.rows(row[4], slots, around)

    def moment(self, kind, number, values):
        fitting = fits(self.asides, kind, number, self.pile)
        self.moments.append((kind, number, values, self.pile, fitting))
        return self.answer_of(self.rest(kind, number, fitting, values))

    def answer_of(self, outcome):
        if outcome[0] == "fault":
            raise Faulty(outcome[1])
        return outcome[1]

    def rest(self, kind, number, places, values):
        if places == ():
            return self.deed(kind, number, values)
        name, form, _, _, test, rows = self.asides[places[0]]
        others = places[1:]
        if form == "behind":
            outcome = self.rest(kind, number, others, values)
            slots = (int(outcome[0] == "fault"), outcome[1]) + values
            if not self.holds(test, slots):
                return outcome
            told = self.body(-1 - name, rows, slots, None)
            return outcome if told[0] == "end" else told
        if not self.holds(test, values):
            return self.rest(kind, number, others, values)
        told = self.body(-1 - name, rows, values, (kind, number, others, values) if form == "around" else None)
        if form == "around" or told[0] == "fault":
            return told
        return self.rest(kind, number, others, values)

    def holds(self, test, values):
        try:
            return reckon(test, (list(values) + [0] * 8)[:8]) != 0
        except Faulty:
            return False

    def deed(self, kind, number, values):
        if kind == "get":
            return ("answer", self.cells[number])
        if kind == "put":
            self.cells[number] = values[0]
            return ("answer", values[0])
        if kind == "tell":
            self.events.append(("tell", values[0]))
            return ("answer", values[0])
        if kind == "ask":
            return ("answer", self.inputs.pop(0)) if self.inputs else ("fault", 2)
        return self.body(number, self.functions[number][1], values, None)
