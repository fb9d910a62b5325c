"""Classes of nodes, and choices that part nodes of unlike ones ([F4] to [F6])."""

from asidewoven.bounds import MAX_CHOICES
from asidewoven.errors import NoPart
from asidewoven.lots import exchanged, lots_of, parts_of
from asidewoven.partings import found_parting, notes_behind, opens_node
from asidewoven.spread import spread_of
from asidewoven.values import is_ascending, is_tuple_of, is_within

LAST_CHOICE = 9


def classes(program, asides, begins):
    """The classes of the nodes come to, ordered by their least nodes."""
    spread = spread_of(program, asides, begins)
    return parts_of(spread, lots_of(spread))


def classes_hold(program, asides, begins, value):
    """Whether value parts the nodes come to as classes have to be, perhaps into more parts."""
    spread = spread_of(program, asides, begins)
    if not _are_parts(spread, value):
        return False
    lots = {}
    for number, part in enumerate(value):
        for node in part:
            lots[node] = number
    for part in value:
        told = [(node[0], exchanged(spread.chains(node), lots)) for node in part]
        if not all([one == told[0] for one in told]):
            return False
    return True


def parting(program, asides, node, other):
    """Choices ahead of either node, and further ones with which free runs of their bodies have unlike notes."""
    spread = spread_of(program, asides, ())
    lots = lots_of(spread)
    if not _are_unlike(spread, lots, node, other):
        raise NoPart(node, other)
    found = found_parting(spread, lots, node, other)
    if found is None:
        raise NoPart(node, other)
    return found


def parting_holds(program, asides, node, other, value):
    """Whether value is such a triple of choices."""
    spread = spread_of(program, asides, ())
    if not _are_unlike(spread, lots_of(spread), node, other):
        return False
    if not is_tuple_of(value, 3, 3) or not all([_are_choices(choices) for choices in value]):
        return False
    ahead, mate, further = value
    if max(len(ahead), len(mate)) + len(further) > MAX_CHOICES:
        return False
    if not opens_node(program, asides, spread.forms, ahead, node):
        return False
    if not opens_node(program, asides, spread.forms, mate, other):
        return False
    return notes_behind(program, asides, ahead, further) != notes_behind(program, asides, mate, further)


def _are_parts(spread, value):
    """Whether value is a tuple of ascending tuples, none empty, by their least nodes, with each node come to once."""
    if not isinstance(value, tuple) or not all([isinstance(part, tuple) and len(part) > 0 for part in value]):
        return False
    found = {}
    for part in value:
        for node in part:
            if not spread.is_come_to(node) or node in found:
                return False
            found[node] = True
    if len(found) != len(spread.facts):
        return False
    return all([is_ascending(part) for part in value]) and is_ascending([part[0] for part in value])


def _are_unlike(spread, lots, node, other):
    """Whether two values are nodes come to that have one letter and are not alike."""
    if not spread.is_come_to(node) or not spread.is_come_to(other):
        return False
    return node[0] == other[0] and lots[node] != lots[other]


def _are_choices(value):
    return isinstance(value, tuple) and all([is_within(choice, 0, LAST_CHOICE) for choice in value])
