"""The judge: whether a chart shows that a weaving runs as a program with its asides ([H3])."""

from asidewoven.chained import NO_COPY, chains_in, without_chains
from asidewoven.charts import chart_error
from asidewoven.looms import tests_of
from asidewoven.programs import body_at
from asidewoven.spread import spread_of
from asidewoven.values import is_place


def judge(program, asides, begins, woven, chart):
    """None if the chart shows that the weaving is right, otherwise what is wrong first."""
    cells, tests, copies, entry = woven
    if cells != program[0]:
        return "cells"
    if tests != tests_of(asides):
        return "tests"
    error = chart_error(woven, chart)
    if error is not None:
        return "chart", error
    spread = spread_of(program, asides, begins)
    wrong = _wrong_node(spread, chart)
    if wrong is not None:
        return ("node",) + wrong
    items = [{node: True for node in item} for item in chart]
    if spread.forms.first_node() not in items[entry]:
        return ("entry",)
    for place, pile in enumerate(begins):
        if not any([spread.forms.node_at(pile) in item for item in items]):
            return "begin", place
    for copy, (letter, rows) in enumerate(copies):
        if without_chains(rows) != body_at(program, asides, letter):
            return "rows", copy
    return _chains_error(spread, copies, chart, items)


def _wrong_node(spread, chart):
    """The first copy in whose item something is no node, and the first such thing; None if there is none.

    The spread comes to all nodes of the chart besides; TooMany is raised ahead of all else.
    """
    wrong = None
    for copy, item in enumerate(chart):
        for node in item:
            if spread.forms.is_node(node):
                spread.also_from(node)
            elif wrong is None:
                wrong = copy, node
    return wrong


def _chains_error(spread, copies, chart, items):
    """The first chain of a copy that does not agree with that of a node of its item."""
    for copy, (_, rows) in enumerate(copies):
        told = [spread.chains(node) for node in chart[copy]]
        for number, (place, chain) in enumerate(chains_in(rows)):
            for node, chains in zip(chart[copy], told):
                _, links, deed = chains[number]
                if not _agrees(chain, links, deed, items):
                    return "chain", copy, place, node
    return None


def _agrees(chain, links, deed, items):
    """Whether a chain does what the links and the deed of a node tell; items are those of the chart."""
    own_links, own_deed = chain
    if [place for place, _ in own_links] != [place for place, _ in links]:
        return False
    if not all([_stands_for(copy, node, items) for (_, copy), (_, node) in zip(own_links, links)]):
        return False
    if own_deed is None or deed is None:
        return own_deed is None and deed is None
    return own_deed[:2] == deed[:2] and _stands_for(own_deed[2], deed[2], items)


def _stands_for(copy, node, items):
    """Whether the node is in the item of the copy; for no node, whether there is no copy."""
    if node is None:
        return copy == NO_COPY
    return is_place(copy, len(items)) and node in items[copy]
