"""Weavings: programs with their asides woven in, and their runs, which look at no pile ([G3], [G4])."""

from asidewoven.free_runs import FreeRun
from asidewoven.looms import Loom
from asidewoven.numbers import Run
from asidewoven.woven_grounds import WovenGround


def weave(program, asides, begins):
    """The pair of the weaving, with a copy for each class, and of its chart, the classes."""
    loom = Loom(program, asides, begins)
    return loom.weaving, loom.chart


def copies_of(woven, letter):
    """The copies that have the letter, ascending."""
    _, _, copies, _ = woven
    return tuple([copy for copy, (own, _) in enumerate(copies) if own == letter])


def run_woven(woven, inputs, steps):
    """The triple (events, end, done) of a run of a weaving."""
    return Run(WovenGround(woven), inputs, steps).result()


def free_woven(woven, choices):
    """The notes of a free run of a weaving, and the pile at which it stops, () if it ends."""
    return FreeRun(WovenGround(woven), choices).result()
