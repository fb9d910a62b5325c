"""Pile parts: which piles they have, their least machines, first piles ([C1] to [C4])."""

from asidewoven.bounds import MAX_STATES
from asidewoven.errors import TooMany
from asidewoven.least import least_reader, small_reader
from asidewoven.readers import LetterReader, groups_of

# A part that has no pile at all.
NOTHING = ("letters", ())


def has_pile(part, pile):
    """Whether the part has the pile."""
    reader = LetterReader(part, tuple(sorted(set(pile))))
    state = reader.start
    for letter in pile:
        state = reader.behind(state, letter)
    return reader.has(state)


def pile_machine(part, letters):
    """The pair (rows, fits) of the part's least machine for these letters."""
    firsts, groups = groups_of((part,), letters)
    least = least_reader(part, firsts, MAX_STATES)
    if least is None:
        raise TooMany(MAX_STATES)
    rows = tuple([tuple([row[group] for group in groups]) for row in least.rows])
    return rows, least.fits


def unlike_pile(part, other, letters):
    """The first pile of the letters that just one of the two parts has, None if there is none."""
    firsts, _ = groups_of((part, other), letters)
    return _first_unlike(small_reader(part, firsts), small_reader(other, firsts), firsts)


def first_pile(part, letters):
    """The first pile of the letters that the part has, None if it has none."""
    return unlike_pile(part, NOTHING, letters)


def _first_unlike(reader, other, firsts):
    """The first pile that just one of two readers has; firsts are the first letters of the groups."""
    heads = {}
    _join(heads, (0, reader.start), (1, other.start))
    # Each entry: two states behind one pile, the entry of the pile without its last letter, and that letter.
    entries = [(reader.start, other.start, None, None)]
    at = 0
    while at < len(entries):
        state, mate, _, _ = entries[at]
        if reader.has(state) != other.has(mate):
            return _pile_behind(entries, at)
        for group, letter in enumerate(firsts):
            further, fellow = reader.behind(state, group), other.behind(mate, group)
            # States already joined are unlike only if ones behind an earlier pile are, which is found ahead of this.
            if _join(heads, (0, further), (1, fellow)):
                entries.append((further, fellow, at, letter))
        at += 1
    return None


def _join(heads, one, two):
    """Makes two things one lot; returns whether they were in two lots."""
    one, two = _head(heads, one), _head(heads, two)
    heads[one] = two
    return one != two


def _head(heads, one):
    """The thing that stands for the lot in which this one is."""
    while heads.get(one, one) != one:
        # Each one is hung higher on the way, so that no way gets long.
        heads[one] = heads.get(heads[one], heads[one])
        one = heads[one]
    return one


def _pile_behind(entries, at):
    letters = []
    while entries[at][2] is not None:
        letters.append(entries[at][3])
        at = entries[at][2]
    return tuple(letters[::-1])
