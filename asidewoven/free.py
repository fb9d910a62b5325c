"""Free runs of programs with asides ([F3])."""

from asidewoven.free_runs import FreeRun
from asidewoven.grounds import PileGround


def free_run(program, asides, choices):
    """The notes of a free run, and the pile at which it stops, () if it ends."""
    return FreeRun(PileGround(program, asides), choices).result()
