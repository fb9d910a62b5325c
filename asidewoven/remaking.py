"""Weavings made of the copies of others: some of these, in another order, with other numbers ([I2])."""

from asidewoven.chained import chains_in, copies_named, with_copies_renamed
from asidewoven.node_forms import NodeForms


def remade(woven, kept, names):
    """The weaving of the copies kept, in this order; names has for each copy that stays named its new number."""
    cells, tests, copies, entry = woven
    made = []
    for copy in kept:
        letter, rows = copies[copy]
        made.append((letter, with_copies_renamed(rows, names)))
    return cells, tests, tuple(made), names[entry]


def ordered(woven, chart, order):
    """The weaving and the chart whose copy k is the copy order[k] of these."""
    return _with_kept(woven, chart, order)


def dropped(program, asides, begins, woven, chart):
    """The weaving and the chart without the copies that nothing comes to."""
    forms = NodeForms(program, asides)
    first = {forms.node_at(pile): True for pile in begins}
    first[forms.first_node()] = True
    held = [copy for copy, item in enumerate(chart) if any([node in first for node in item])]
    return _with_kept(woven, chart, _come_to(woven, held))


def _with_kept(woven, chart, kept):
    names = {copy: number for number, copy in enumerate(kept)}
    return remade(woven, kept, names), tuple([chart[copy] for copy in kept])


def _come_to(woven, held):
    """The copies that something comes to, ascending, if it comes to those held and to the entry."""
    _, _, copies, entry = woven
    found = {copy: True for copy in held + [entry]}
    waiting = list(found)
    while len(waiting) > 0:
        _, rows = copies[waiting.pop()]
        for _, chain in chains_in(rows):
            for copy in copies_named(chain):
                if copy not in found:
                    found[copy] = True
                    waiting.append(copy)
    return sorted(list(found))
