"""Free runs once more, written straight from the document's words, to compare the package with."""

from node_oracle import NodeOracle, row_kinds
from oracle import Answered, Faulty, fits


class Halted(Exception):
    """No choice is left."""


class FreeOracle:
    def __init__(self, program, asides, choices):
        self.program, self.asides, self.choices = program, asides, list(choices)
        self.notes, self.pile = [], ()
        try:
            self.body(len(program[1]) - 1, program[1][-1][1], None)
        except Halted:
            pass

    def choose(self, note, ways):
        self.notes.append(note)
        if not self.choices:
            raise Halted()
        return self.choices.pop(0) % ways

    def body(self, letter, rows, around):
        """How the body ends: "end", "answer" or the kind of a fault."""
        if self.choose(("body", letter), 2) == 1:
            return 3
        self.pile += (letter,)
        self.opened(around)
        try:
            self.rows(rows, (), around)
            end = "end"
        except Answered:
            end = "answer"
        except Faulty as faulty:
            end = faulty.kind
        self.notes.append(("end", letter))
        self.closed()
        self.pile = self.pile[:-1]
        return end

    def opened(self, around):
        """For those who mark bodies; the body's letter is on the pile."""

    def closed(self):
        """For those who mark bodies; the body's letter is on the pile still."""

    def rows(self, rows, ahead, around):
        for number, row in enumerate(rows):
            self.row(row, ahead + (number,), around)

    def row(self, row, place, around):
        kinds = sorted(row_kinds(row))
        if kinds:
            way = self.choose(("row", place), len(kinds) + 1)
            if way:
                raise Faulty(kinds[way - 1])
        word = row[0]
        if word == "answer":
            raise Answered(0)
        if word == "fault":
            raise Faulty(row[1])
        if word == "if":
            first = row[1][1] != 0 if row[1][0] == "n" else self.choose(("if", place), 2) == 1
            self.rows(row[2] if first else row[3], place + (0 if first else 1,), around)
        if word == "try":
            try:
                return self.rows(row[1], place + (0,), around)
            except Faulty as faulty:
                if faulty.kind not in row[2]:
                    raise
            self.rows(row[4], place + (1,), around)
        if word in ("get", "put", "call", "tell", "ask"):
            number = row[2] if word in ("get", "call") else row[1] if word == "put" else None
            self.outcome(self.rest(word, number, fits(self.asides, word, number, self.pile)))
        if word == "on":
            self.outcome(self.rest(*around))

    def outcome(self, end):
        if end not in ("end", "answer"):
            raise Faulty(end)

    def rest(self, kind, number, places):
        """How the rest ends: "answer" or the kind of a fault."""
        if not places:
            return self.deed(kind, number)
        name, form, _, _, _, rows = self.asides[places[0]]
        letter, others = -1 - name, places[1:]
        if form == "behind":
            end = self.rest(kind, number, others)
            if not self.holds(places[0]):
                return end
            told = self.body(letter, rows, None)
            return end if told == "end" else told
        if not self.holds(places[0]):
            return self.rest(kind, number, others)
        told = self.body(letter, rows, (kind, number, others) if form == "around" else None)
        if form == "around" or told not in ("end", "answer"):
            return "answer" if told == "end" else told
        return self.rest(kind, number, others)

    def holds(self, place):
        test = self.asides[place][4]
        return test[1] != 0 if test[0] == "n" else self.choose(("test", self.asides[place][0]), 2) == 1

    def deed(self, kind, number):
        if kind == "call":
            told = self.body(number, self.program[1][number][1], None)
            return "answer" if told == "end" else told
        if kind == "ask" and self.choose(("ask",), 2) == 1:
            return 2
        self.notes.append(("deed", kind, number))
        return "answer"


class Marking(FreeOracle):
    """A free run with further choices behind some, in which the body that the last of these opens is marked."""

    def __init__(self, program, asides, choices, further):
        self.at, self.many = len(choices), 0
        self.states_of = NodeOracle(program, asides, ()).at
        self.node, self.since, self.till, self.depth = None, None, None, None
        super().__init__(program, asides, choices + further)

    def choose(self, note, ways):
        way = super().choose(note, ways)
        self.many += 1
        return way

    def opened(self, around):
        if self.many == self.at and self.node is None:
            moment, rest = (around[:2], around[2]) if around else (None, ())
            self.node = (self.pile[-1], self.states_of(self.pile)[1], moment, rest)
            self.since, self.depth = len(self.notes), len(self.pile)

    def closed(self):
        if self.depth == len(self.pile) and self.till is None:
            self.till = len(self.notes)

    def marked(self):
        """The notes behind the opening of the marked body, up to its end."""
        return self.notes[self.since:self.till]
