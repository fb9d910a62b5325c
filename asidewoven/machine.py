"""Runs of programs with asides: what they tell, their moments, their openings ([B7])."""

from asidewoven.grounds import PileGround
from asidewoven.numbers import Run


def run(program, asides, inputs, steps):
    """The triple (events, end, done) of a run."""
    return Run(PileGround(program, asides), inputs, steps).result()


def moments(program, asides, inputs, steps):
    """A row (kind, number, values, pile, fits) for each moment of a run."""
    done = Run(PileGround(program, asides), inputs, steps)
    done.result()
    return tuple([
        (moment.kind, moment.number, moment.handed, moment.pile, moment.links) for moment in done.moments
    ])


def openings(program, asides, inputs, steps):
    """The piles at which bodies were opened in a run, the letter of each on top."""
    done = Run(PileGround(program, asides), inputs, steps)
    done.result()
    return tuple([body.pile for body, _ in done.openings])
