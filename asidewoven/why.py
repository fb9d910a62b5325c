"""Why asides are run, and where two lots of asides run unlike ones ([K1] to [K3])."""

from asidewoven.errors import NoMoment
from asidewoven.fits import states_at
from asidewoven.grounds import PileGround
from asidewoven.machine import moments
from asidewoven.numbers import Run
from asidewoven.programs import letter_of
from asidewoven.values import is_place


def why(program, asides, inputs, steps, number):
    """The triple (pile, place, states) of the body of an aside with this number among those opened in the run."""
    done = Run(PileGround(program, asides), inputs, steps)
    done.result()
    opened = [(body, moment) for body, moment in done.openings if moment is not None]
    if not is_place(number, len(opened)):
        raise NoMoment(number)
    body, moment = opened[number]
    place = [letter_of(aside) for aside in asides].index(body.letter)
    return moment.pile, place, states_at(program, asides, moment.pile)


def first_unlike(program, asides, others, inputs, steps):
    """The triple (number, fits, further) of the first moment at which unlike things fit in both runs, or None."""
    rows = moments(program, asides, inputs, steps)
    further = moments(program, others, inputs, steps)
    for number, (row, other) in enumerate(zip(rows, further)):
        if _doings(asides, row[4]) != _doings(others, other[4]):
            return number, row[4], other[4]
    return None


def _doings(asides, places):
    """What the asides at these places do, in this order."""
    doings = []
    for place in places:
        name, form, _, _, test, rows = asides[place]
        doings.append((name, form, test, rows))
    return doings
