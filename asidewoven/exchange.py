"""Runs with changes: by the pile, and handed over from weaving to weaving ([J1] to [J4])."""

from asidewoven.changing import ChangingRun, PileGrounds, WovenGrounds
from asidewoven.errors import Unfit


def run_exchanged(program, asides, changes, inputs, steps):
    """The quadruple (events, end, done, changed) of a run with changes."""
    _check_fitting(program, changes)
    done = ChangingRun(PileGrounds(), (program, asides), changes, inputs, steps)
    return done.result() + (done.changed,)


def run_handed(program, asides, changes, inputs, steps):
    """What run_exchanged tells, by weavings, and besides the numbers of their copies."""
    _check_fitting(program, changes)
    grounds = WovenGrounds()
    done = ChangingRun(grounds, (program, asides), changes, inputs, steps)
    return done.result() + (done.changed, tuple(grounds.many))


def _check_fitting(program, changes):
    for further, _ in changes:
        if _shape(further) != _shape(program):
            raise Unfit()


def _shape(program):
    """What a change has to have as the program has it: how many cells, and the parameters of all functions."""
    cells, functions = program
    return len(cells), [parameters for parameters, _ in functions]
