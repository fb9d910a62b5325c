"""Runs, row by row, whatever tells their numbers and their asides ([B3] to [B6])."""

from asidewoven.bodies import Before, Behind, BehindBody, Body, Moment, Rest, slots_with


class Stopped(Exception):
    """The run is stopped where it is."""


class Fault(Exception):
    """A fault of an expression."""

    def __init__(self, kind):
        self.kind = kind


class Engine:
    """A run. Its ground tells which bodies there are and what is run at a moment; a class below tells the numbers.

    The ground has entry(), rest_at(body, row, kind, number) and rest_on(body, row), both pairs of links and a deed,
    form(link), test(link), name(link), aside(link, body) and function(deed, body). A body that is to be opened is told
    as a triple (letter, rows, spot). A class below has row_begun, values_of, goes_first, holds, may_begin, deed_done.

    An outcome is ("answer", number), ("fault", kind), or ("end", 0), the answer 0 of a body at the end of its rows.
    Bodies and what waits for their outcomes stand on a stack, as bodies open other ones farther than calls may go.
    """

    def __init__(self, ground):
        self.ground = ground
        self.stack = []
        self.bodies = []
        self.outcome = None

    def go(self):
        """Runs the main body; returns its outcome, None if the run is stopped."""
        try:
            self.begin_body(self.ground.entry(), (), None)
            while self.outcome is None or len(self.stack) > 0:
                self.go_on()
        except Stopped:
            return None
        return self.outcome

    def go_on(self):
        top = self.stack[-1]
        if self.outcome is None:
            self.do_next_row(top)
            return
        outcome = self.outcome
        self.outcome = None
        if isinstance(top, Body):
            self.take_outcome(top, outcome)
            return
        self.stack.pop()
        if isinstance(top, Behind):
            self.end_others(top.rest, outcome)
        elif isinstance(top, Before) and outcome[0] != "fault":
            self.run_rest(top.rest)
        elif isinstance(top, BehindBody) and outcome[0] == "end":
            self.outcome = top.outcome
        else:
            self.outcome = outcome

    def top_pile(self):
        return self.bodies[-1].pile if len(self.bodies) > 0 else ()

    def do_next_row(self, body):
        row = body.next_row()
        if row is None:
            self.end_body(("end", 0))
            return
        self.row_begun(body, row)
        try:
            values = self.values_of(body, row)
        except Fault as fault:
            self.have_fault(body, fault.kind)
            return
        self.do_row(body, row, values)

    def do_row(self, body, row, values):
        """Does a row; values are those of its expressions."""
        word = row[0]
        if word == "set":
            body.slots[row[1]] = values[0]
        elif word == "fault":
            self.have_fault(body, row[1])
        elif word == "answer":
            self.end_body(("answer", values[0]))
        elif word == "if":
            body.enter(0 if self.goes_first(body, row, values) else 1)
        elif word == "try":
            body.enter(0)
        elif word == "on":
            self.run_on(body, row, values)
        elif word != "rest":
            self.begin_moment(body, row, values)

    def have_fault(self, body, kind):
        guard = body.catch(kind)
        if guard is None:
            self.end_body(("fault", kind))
            return
        body.slots[guard[3]] = kind
        body.enter(1)

    def take_outcome(self, body, outcome):
        """The row of the body that has begun a moment, or an on, has this outcome."""
        word, told = outcome
        row = body.last_row()
        if word == "fault":
            self.have_fault(body, told)
        elif row[0] not in ("put", "tell"):
            body.slots[row[1]] = told

    def begin_moment(self, body, row, values):
        kind = row[0]
        number = moment_number(row)
        links, deed = self.ground.rest_at(body, row, kind, number)
        moment = Moment(kind, number, values, body.pile, links)
        self.moment_begun(moment)
        self.run_rest(Rest(moment, links, deed, values))

    def run_on(self, body, row, values):
        handed = body.rest.handed
        links, deed = self.ground.rest_on(body, row)
        self.run_rest(Rest(body.rest.moment, links, deed, values[:len(handed)] + handed[len(values):]))

    def run_rest(self, rest):
        """Begins to run a rest: up to the first body that is opened, or to an outcome."""
        while len(rest.links) > 0:
            link = rest.links[0]
            if self.ground.form(link) == "behind":
                self.stack.append(Behind(rest))
                rest = rest.others()
            elif not self.holds(link, rest.handed):
                rest = rest.others()
            else:
                if self.ground.form(link) == "before":
                    self.stack.append(Before(rest.others()))
                self.begin_aside(rest, rest.handed)
                return
        if rest.deed[0] == "call":
            self.begin_body(self.ground.function(rest.deed, self.bodies[-1]), rest.handed, None)
        else:
            self.outcome = self.deed_done(rest.deed[0], rest.deed[1], rest.handed)

    def end_others(self, rest, outcome):
        """The others of a rest whose first link is a behind aside have this outcome."""
        word, told = outcome
        values = (1 if word == "fault" else 0, told) + rest.handed
        if not self.holds(rest.links[0], values):
            self.outcome = outcome
            return
        self.stack.append(BehindBody(outcome))
        self.begin_aside(rest, values)

    def begin_aside(self, rest, values):
        """Opens the body of the first link of a rest."""
        body = self.ground.aside(rest.links[0], self.bodies[-1])
        around = self.ground.form(rest.links[0]) == "around"
        self.begin_body(body, values, rest.others() if around else None, rest.moment)

    def begin_body(self, told, values, rest, moment=None):
        """Opens a body with these values in its slots; rest is what its on rows run, moment what it was opened for."""
        letter, rows, spot = told
        if not self.may_begin(letter):
            self.outcome = ("fault", 3)
            return
        body = Body(letter, spot, self.top_pile() + (letter,), slots_with(values), rest)
        body.begin(rows)
        self.stack.append(body)
        self.bodies.append(body)
        self.body_begun(body, moment)

    def end_body(self, outcome):
        self.stack.pop()
        body = self.bodies.pop()
        self.body_ended(body)
        self.outcome = outcome

    def moment_begun(self, moment):
        """For those who keep the moments."""

    def body_begun(self, body, moment):
        """For those who keep the bodies opened; moment is None for a function."""

    def body_ended(self, body):
        """For those who keep the bodies ended."""


def moment_number(row):
    """The number of the moment that begins at a row."""
    if row[0] in ("get", "call"):
        return row[2]
    return row[1] if row[0] == "put" else None


def expressions_in(row):
    """The expressions that a row reckons, in their order."""
    if row[0] in ("set", "put"):
        return (row[2],)
    if row[0] in ("if", "tell", "answer"):
        return (row[1],)
    if row[0] == "call":
        return row[3]
    return row[2] if row[0] == "on" else ()
