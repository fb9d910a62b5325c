"""Turnings that make one copy of several ([I2], [I3])."""

from asidewoven.chained import chains_in, renamed
from asidewoven.remaking import remade


def join_error(woven, lots):
    """What is wrong with a join whose lots are as they have to be by their numbers, None if nothing is."""
    _, _, copies, _ = woven
    for lot in lots:
        if len(set([copies[copy][0] for copy in lot])) > 1:
            return "letters"
    heads = _heads(lots, len(copies))
    for copy, head in enumerate(heads):
        place = None if copy == head else _unlike_row(copies[copy][1], copies[head][1], heads)
        if place is not None:
            return "rows", copy, place
    return None


def joined(woven, chart, lots):
    """The weaving and the chart behind a join that can be done."""
    heads = _heads(lots, len(chart))
    kept = [copy for copy, head in enumerate(heads) if copy == head]
    numbers = {copy: number for number, copy in enumerate(kept)}
    members = [{} for _ in kept]
    for copy, head in enumerate(heads):
        for node in chart[copy]:
            members[numbers[head]][node] = True
    names = [numbers[head] for head in heads]
    return remade(woven, kept, names), tuple([tuple(sorted(list(nodes))) for nodes in members])


def _heads(lots, many):
    """For each of so many copies the head of its lot, itself if it is in none."""
    heads = list(range(many))
    for lot in lots:
        for copy in lot:
            heads[copy] = lot[0]
    return heads


def _unlike_row(rows, others, heads):
    """The place of the first row whose chain is unlike that of the other row there, copies being read as heads."""
    for (place, chain), (_, other) in zip(chains_in(rows), chains_in(others)):
        if renamed(chain, heads) != renamed(other, heads):
            return place
    return None
