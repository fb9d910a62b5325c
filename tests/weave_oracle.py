"""Runs of weavings, the judge and turnings once more, straight from the document's words, to compare the package with."""

from asidewoven.charts import chart_error
from asidewoven.errors import NoNode
from asidewoven.nodes import chains, nodes
from asidewoven.piles import pile_machine
from asidewoven.programs import body_at, letters_of
from free_oracle import FreeOracle
from oracle import Oracle, reckon

KINDS = ("get", "put", "call", "tell", "ask")


def handed_in(row):
    """The expressions of a row with a moment."""
    if row[0] in ("put", "tell"):
        return (row[2] if row[0] == "put" else row[1],)
    return row[3] if row[0] == "call" else row[2] if row[0] == "on" else ()


class WovenOracle(Oracle):
    """One run of a weaving."""

    def __init__(self, woven, inputs, steps):
        cells, self.tests, self.copies, self.first = woven
        super().__init__((cells, (self.copies[self.first],)), (), inputs, steps)

    def finish(self):
        self.functions = ((0, ()),) * self.copies[self.first][0] + ((0, self.copies[self.first][1]),)
        return super().finish()

    def row(self, row, slots, around):
        word = row[0]
        if word not in KINDS + ("on",):
            return super().row(row, slots, around)
        told = tuple(reckon(item, slots) for item in handed_in(row))
        if word == "on":
            told = tuple(told[at] if at < len(told) else around[at] for at in range(len(around)))
        answer = self.answer_of(self.chain(row[-1], told))
        if word not in ("put", "tell"):
            slots[row[1]] = answer

    def chain(self, chain, values):
        links, deed = chain
        if not links:
            kind, number, copy = deed
            if kind == "call":
                return self.body(self.copies[copy][0], self.copies[copy][1], values, None)
            return self.deed(kind, number, values)
        (place, copy), others = links[0], (links[1:], deed)
        form, test = self.tests[place]
        letter, rows = self.copies[copy]
        if form == "behind":
            outcome = self.chain(others, values)
            slots = (int(outcome[0] == "fault"), outcome[1]) + values
            if not self.holds(test, slots):
                return outcome
            told = self.body(letter, rows, slots, None)
            return outcome if told[0] == "end" else told
        if not self.holds(test, values):
            return self.chain(others, values)
        told = self.body(letter, rows, values, values if form == "around" else None)
        if form == "around" or told[0] == "fault":
            return told
        return self.chain(others, values)


class FreeWovenOracle(FreeOracle):
    """One free run of a weaving."""

    def __init__(self, woven, choices):
        _, self.tests, self.copies, first = woven
        letter, rows = self.copies[first]
        super().__init__(((), ((0, ()),) * letter + ((0, rows),)), (), choices)

    def row(self, row, place, around):
        if row[0] not in KINDS + ("on",):
            return super().row(row, place, around)
        # A row that reckons the same and begins nothing has the same notes up to the moment.
        told = ("n", 0)
        for item in handed_in(row):
            told = ("same", told, item)
        super().row(("set", 0, told), place, around)
        self.outcome(self.chain(row[-1]))

    def chain(self, chain):
        links, deed = chain
        if not links:
            kind, number, copy = deed
            if kind != "call":
                return super().deed(kind, number)
            told = self.body(self.copies[copy][0], self.copies[copy][1], None)
            return "answer" if told == "end" else told
        (place, copy), others = links[0], (links[1:], deed)
        form, test = self.tests[place]
        letter, rows = self.copies[copy]
        if form == "behind":
            end = self.chain(others)
            if not self.test_holds(test, letter):
                return end
            told = self.body(letter, rows, None)
            return end if told == "end" else told
        if not self.test_holds(test, letter):
            return self.chain(others)
        told = self.body(letter, rows, None)
        if form == "around" or told not in ("end", "answer"):
            return "answer" if told == "end" else told
        return self.chain(others)

    def test_holds(self, test, letter):
        return test[1] != 0 if test[0] == "n" else self.choose(("test", -1 - letter), 2) == 1


def first_nodes(program, asides, begins):
    """The nodes of the main function's pile and of each of begins."""
    letters = letters_of(program, asides)
    machines = [pile_machine(aside[3], letters)[0] for aside in asides]
    found = []
    for pile in ((len(program[1]) - 1,),) + tuple(begins):
        states = [0] * len(asides)
        for letter in pile:
            states = [rows[state][letters.index(letter)] for rows, state in zip(machines, states)]
        found.append((pile[-1], tuple(states), None, ()))
    return found


def bare(rows):
    """Rows without their chains."""
    made = []
    for row in rows:
        if row[0] in KINDS + ("on",):
            row = row[:-1]
        elif row[0] == "if":
            row = row[:2] + (bare(row[2]), bare(row[3]))
        elif row[0] == "try":
            row = ("try", bare(row[1]), row[2], row[3], bare(row[4]))
        made.append(row)
    return tuple(made)


def places_of(rows, ahead=()):
    """The pairs of a place and a chain, in the order in which the rows are written."""
    found = []
    for number, row in enumerate(rows):
        place = ahead + (number,)
        if row[0] in KINDS + ("on",):
            found.append((place, row[-1]))
        if row[0] in ("if", "try"):
            inner = (row[2], row[3]) if row[0] == "if" else (row[1], row[4])
            found += places_of(inner[0], place + (0,)) + places_of(inner[1], place + (1,))
    return found


def judged(program, asides, begins, woven, chart):
    """What judge has to tell."""
    cells, tests, copies, entry = woven
    if cells != program[0]:
        return "cells"
    if tests != tuple((form, test) for _, form, _, _, test, _ in asides):
        return "tests"
    if chart_error(woven, chart) is not None:
        return ("chart", chart_error(woven, chart))
    nodes(program, asides, begins)
    told, wrong = {}, []
    for copy, item in enumerate(chart):
        for node in item:
            try:
                told[node] = chains(program, asides, begins, node)
            except NoNode:
                wrong.append(("node", copy, node))
    if wrong:
        return wrong[0]
    first = first_nodes(program, asides, begins)
    if first[0] not in chart[entry]:
        return ("entry",)
    for place, node in enumerate(first[1:]):
        if not any(node in item for item in chart):
            return ("begin", place)
    for copy, (letter, rows) in enumerate(copies):
        if bare(rows) != body_at(program, asides, letter):
            return ("rows", copy)
    for copy, (letter, rows) in enumerate(copies):
        for number, (place, chain) in enumerate(places_of(rows)):
            for node in chart[copy]:
                if not agree(chain, told[node][number], chart):
                    return ("chain", copy, place, node)
    return None


def agree(chain, told, chart):
    (links, deed), (_, node_links, node_deed) = chain, told
    if len(links) != len(node_links) or (deed is None) != (node_deed is None):
        return False
    for (place, copy), (other, node) in zip(links, node_links):
        if place != other or node not in chart[copy]:
            return False
    if deed is None:
        return True
    if deed[:2] != node_deed[:2]:
        return False
    return deed[2] == -1 if node_deed[2] is None else deed[2] >= 0 and node_deed[2] in chart[deed[2]]


def mapped(rows, change):
    """Rows in whose chains each copy is what change tells of the place of the row, a number of a link or None for the
    deed, and the copy."""
    def chain_of(place, chain):
        links, deed = chain
        links = tuple((aside, change(place, number, copy)) for number, (aside, copy) in enumerate(links))
        return links, deed if deed is None or deed[2] == -1 else deed[:2] + (change(place, None, deed[2]),)

    def go(inner, ahead):
        made = []
        for number, row in enumerate(inner):
            place = ahead + (number,)
            if row[0] in KINDS + ("on",):
                row = row[:-1] + (chain_of(place, row[-1]),)
            elif row[0] == "if":
                row = row[:2] + (go(row[2], place + (0,)), go(row[3], place + (1,)))
            elif row[0] == "try":
                row = ("try", go(row[1], place + (0,)), row[2], row[3], go(row[4], place + (1,)))
            made.append(row)
        return tuple(made)

    return go(rows, ())


def renumbered(woven, chart, kept, number):
    """The weaving and the chart of the copies kept; number has the new number of each copy."""
    cells, tests, copies, entry = woven
    made = tuple((copies[copy][0], mapped(copies[copy][1], lambda place, at, old: number[old])) for copy in kept)
    return (cells, tests, made, number[entry]), tuple(chart[copy] for copy in kept)


def after_order(woven, chart, copies):
    return renumbered(woven, chart, copies, {old: new for new, old in enumerate(copies)})


def after_join(woven, chart, lots):
    head = {copy: copy for copy in range(len(chart))}
    for lot in lots:
        for copy in lot:
            head[copy] = min(lot)
    kept = [copy for copy in head if head[copy] == copy]
    wider = tuple(
        tuple(sorted({node for copy in head if head[copy] == one for node in chart[copy]})) for one in head
    )
    return renumbered(woven, wider, kept, {copy: kept.index(head[copy]) for copy in head})


def after_drop(program, asides, begins, woven, chart):
    first = first_nodes(program, asides, begins)
    come_to = {woven[3]} | {copy for copy, item in enumerate(chart) if set(item) & set(first)}
    while True:
        named = set()
        for copy in come_to:
            mapped(woven[2][copy][1], lambda place, at, old: named.add(old))
        if named <= come_to:
            break
        come_to |= named
    kept = sorted(come_to)
    return renumbered(woven, chart, kept, {old: new for new, old in enumerate(kept)})


def after_split(program, asides, begins, woven, chart, copy, some):
    """The weaving and the chart behind a split, or ("mixed", copy, place)."""
    cells, tests, copies, entry = woven
    new = len(copies)
    chart = chart[:copy] + (tuple(node for node in chart[copy] if node not in some),) + chart[copy + 1:] + (some,)
    made, mixed = [], []
    for at, (letter, rows) in enumerate(copies + (copies[copy],)):
        told = [dict((place, (links, deed)) for place, links, deed in chains(program, asides, begins, node)) for node in chart[at]]

        def change(place, number, old):
            if old != copy:
                return old
            there = {one[place][1][2] if number is None else one[place][0][number][1] for one in told}
            if there <= set(some):
                return new
            if there & set(some):
                mixed.append(("mixed", at, place))
            return old

        made.append((letter, mapped(rows, change)))
    if mixed:
        return mixed[0]
    first = first_nodes(program, asides, begins)[0]
    return (cells, tests, tuple(made), new if entry == copy and first in some else entry), chart
