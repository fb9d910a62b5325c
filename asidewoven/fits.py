"""Which asides fit at a moment, and what that hangs on ([D1] to [D4])."""

from asidewoven.errors import Unfit
from asidewoven.piles import first_pile, has_pile, pile_machine
from asidewoven.programs import letters_of


def fits_at(asides, kind, number, pile):
    """The places of all asides that fit a moment of this kind and number at a pile."""
    return tuple([
        place for place, aside in enumerate(asides) if is_for(aside, kind, number) and has_pile(aside[3], pile)
    ])


def states_at(program, asides, pile):
    """The states of the least machines of all asides behind a pile."""
    letters = letters_of(program, asides)
    for letter in pile:
        if letter not in letters:
            raise Unfit()
    return tuple([_state_behind(pile_machine(aside[3], letters), letters, pile) for aside in asides])


def settled(program, asides, kind, number):
    """For each aside whether it fits such moments never, always, or as the pile has it."""
    letters = letters_of(program, asides)
    return tuple([_settled(aside, kind, number, letters) for aside in asides])


def is_for(aside, kind, number):
    """Whether one of the pairs of an aside is of moments of this kind and number."""
    return (kind, number) in aside[2] or (kind, None) in aside[2]


def _state_behind(machine, letters, pile):
    rows, _ = machine
    state = 0
    for letter in pile:
        state = rows[state][letters.index(letter)]
    return state


def _settled(aside, kind, number, letters):
    part = aside[3]
    if not is_for(aside, kind, number) or first_pile(part, letters) is None:
        return "never"
    return "always" if first_pile(("not", part), letters) is None else "pile"
