"""Choices that part two nodes: found, and checked ([F5])."""

from asidewoven.free_runs import FreeRun
from asidewoven.grounds import PileGround
from asidewoven.races import Races, choices_of, joined, shorter


class Watched(FreeRun):
    """A free run that watches the body opened by the choice that is the last of so many."""

    def __init__(self, ground, choices, many):
        super().__init__(ground, choices)
        self.many = many
        self.depth = 0
        self.watched = None
        self.since = 0
        self.till = None

    def body_begun(self, body, moment):
        if self.taken == self.many:
            self.watched = body
            self.depth = len(self.bodies)
            self.since = len(self.notes)

    def body_ended(self, body):
        super().body_ended(body)
        if self.watched is not None and self.till is None and len(self.bodies) < self.depth:
            self.till = len(self.notes)

    def node_watched(self, forms):
        """The node of the body watched, None if there is none."""
        body = self.watched
        if body is None:
            return None
        _, states, _, _ = forms.node_at(body.pile)
        if body.rest is None:
            return body.letter, states, None, ()
        return body.letter, states, (body.rest.moment.kind, body.rest.moment.number), body.rest.links

    def notes_watched(self):
        """The notes behind the opening of the body, up to that of its end."""
        return self.notes[self.since:] if self.till is None else self.notes[self.since:self.till]


def found_parting(spread, lots, node, other):
    """A triple (ahead, mate, further) that parts two nodes, with the fewest choices; None if these are too many."""
    main = (spread.forms.first_node(), spread.forms.first_node())
    races = Races(spread.forms, lots, [main, (node, other)])
    # The main body is opened by a choice, too.
    ways = races.ways_from(main, (1, 0))
    unlike = races.ways_from((node, other), (0, None))
    further = None
    for pair in unlike:
        if races.races[pair].unlike is not None:
            further = shorter(further, joined(unlike[pair], races.races[pair].unlike))
    ahead, mate = ways.get((node, node)), ways.get((other, other))
    if further is None or ahead is None or mate is None:
        return None
    if joined(ahead, further) is None or joined(mate, further) is None:
        return None
    return choices_of(ahead), choices_of(mate), choices_of(further)


def opens_node(program, asides, forms, choices, node):
    """Whether the last of the choices opens a body whose node is this one."""
    run = Watched(PileGround(program, asides), choices, len(choices))
    run.go()
    return run.node_watched(forms) == node


def notes_behind(program, asides, choices, further):
    """The notes of the body opened by the last of the choices, in the free run with further choices behind them."""
    run = Watched(PileGround(program, asides), choices + further, len(choices))
    run.go()
    return run.notes_watched()
