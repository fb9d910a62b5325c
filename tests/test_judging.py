"""What judge tells: [H3], [H4]."""

import copy
import random
import unittest

from asidewoven.errors import TooMany
from asidewoven.free import free_run
from asidewoven.judging import judge
from asidewoven.machine import run
from asidewoven.nodes import chains, nodes
from asidewoven.weaving import copies_of, free_woven, run_woven, weave
from making import NUMBERS
from samples import NEVER, NO_TUPLES, ONE, REST, with_item
from test_nodes import CALL, EVERY, SLOT, TELL, TELLS, aside, function, made
from test_weaving import WINDOW, counting, few_calls, other_weaving
from weave_oracle import judged, mapped, places_of

BELOW = ("row", (EVERY, ("letters", (1,)), EVERY))
# 2 calls 0 and 1, 1 calls 0, which tells and gets.
PROGRAM = ((4,), ((0, (TELL, ("if", SLOT, (("get", 0, 0),), ()))), (0, (CALL,)), (0, (CALL, ("call", 0, 1, ())))))
ASIDES = (
    aside(5, "before", TELLS, BELOW, SLOT, (REST,)), aside(2, "around", (("get", None),), EVERY, ONE, (("on", 0, ()), ("on", 1, ()))),
    aside(8, "behind", (("get", 0),), EVERY, SLOT),
)
WOVEN, CHART = weave(PROGRAM, ASIDES, ())
# The copies: -9 behind, -6 before, -3 around, twice the function 0 (without 1 below, and with it), 1 and 2.
BEHIND, BEFORE, AROUND, ZERO, UNDER, ONE_COPY, MAIN = range(7)


def with_copy(woven, at, changed):
    """The weaving with other rows in a copy."""
    return woven[:2] + (with_item(woven[2], at, (woven[2][at][0], changed)), woven[3])


def with_chain(woven, at, place, chain):
    """The weaving with another chain at a row of a copy, by its place of at most one number."""
    rows = woven[2][at][1]
    return with_copy(woven, at, with_item(rows, place, rows[place][:-1] + (chain,)))


class Judged(unittest.TestCase):
    def check(self, wanted, woven=WOVEN, chart=CHART, begins=(), program=PROGRAM, asides=ASIDES):
        with self.subTest(woven=woven, chart=chart, begins=begins):
            self.assertEqual(repr(judge(program, asides, begins, woven, chart)), repr(wanted))
            self.assertEqual(repr(judged(program, asides, begins, woven, chart)), repr(wanted))


class Answers(Judged):
    def test_the_weaving_of_these_tests(self):
        self.assertEqual([letter for letter, _ in WOVEN[2]], [-9, -6, -3, 0, 0, 1, 2])
        self.assertEqual(WOVEN[2][UNDER][1][0], ("tell", ONE, (((0, BEFORE),), ("tell", None, -1))))
        self.assertEqual(WOVEN[2][ZERO][1][1][2], (("get", 0, 0, (((1, AROUND),), None)),))
        self.assertEqual(WOVEN[2][AROUND][1][0], ("on", 0, (), (((2, BEHIND),), ("get", 0, -1))))
        self.assertEqual(WOVEN[2][MAIN][1], (("call", 0, 0, (), ((), ("call", 0, ZERO))), ("call", 0, 1, (), ((), ("call", 1, ONE_COPY)))))
        self.assertEqual([len(item) for item in CHART], [2, 1, 2, 1, 1, 1, 1])
        self.check(None)

    def test_what_weave_tells(self):
        for seed in range(100):
            program, asides, begins = made(seed)
            woven, chart = weave(program, asides, begins)
            self.check(None, woven, chart, begins, program, asides)

    def test_cells(self):
        for cells in ((), (5,), (4, 4), (-4,)):
            self.check("cells", (cells,) + WOVEN[1:])
        self.check("cells", program=((5,), PROGRAM[1]))
        self.check("cells", program=((), ((0, ()),)), asides=())

    def test_tests(self):
        tests = WOVEN[1]
        for wrong in ((), tests[:2], tests[::-1], tests + tests[:1], with_item(tests, 0, ("behind", SLOT)), with_item(tests, 1, ("around", SLOT)), with_item(tests, 2, ("behind", ("v", 1)))):
            self.check("tests", (WOVEN[0], wrong) + WOVEN[2:])
        self.check("tests", asides=())
        self.check("tests", asides=ASIDES[::-1])

    def test_chart(self):
        for value in NO_TUPLES + NEVER + ((), CHART[1:], CHART + CHART[:1], list(CHART)):
            self.check(("chart", "form"), chart=value)
        for at in range(7):
            for item in NO_TUPLES + ((), CHART[at][0], CHART[(at + 1) % 7] if at != ZERO else (), CHART[at] * 2, CHART[at] + (None,)):
                self.check(("chart", ("copy", at)), chart=with_item(CHART, at, item))

    def test_node(self):
        for at, wrong in (
            (ZERO, (0, (2, 0, 0), None, ())), (ZERO, (0, (0, 1, 0), None, ())), (ZERO, (0, (0, 0, 10 ** 30), None, ())), (ZERO, (0, (0, 0, 0), ("tell", None), ())),
            (AROUND, (-3, (0, 0, 0), None, ())), (AROUND, (-3, (0, 0, 0), ("get", 1), ())), (AROUND, (-3, (0, 0, 0), ("put", 0), ())), (AROUND, (-3, (0, 0, 0), ("get", 0), (0,))),
            (AROUND, (-3, (0, 0, 0), ("get", 0), (1, 2))), (AROUND, (-3, (0, 0, 0), ("tell", None), ())), (BEFORE, (-6, (1, 0, 0), ("tell", None), ())), (MAIN, (2, (0, 0, 1), None, ())),
        ):
            self.check(("node", at, wrong), chart=with_item(CHART, at, (wrong,)))
            further = CHART[at] if wrong[2] == CHART[at][0][2] or wrong[2] is None and CHART[at][0][2] is None else ()
            if further:
                self.check(("node", at, wrong), chart=with_item(CHART, at, tuple(sorted(further + (wrong,)))))

    def test_the_first_node_that_is_none(self):
        wrong = [(0, (state, 0, 0), None, ()) for state in (2, 3, 4)]
        self.check(("node", ZERO, wrong[0]), chart=with_item(CHART, ZERO, CHART[ZERO] + tuple(wrong)))
        self.check(("node", ZERO, wrong[2]), chart=with_item(with_item(CHART, UNDER, CHART[UNDER] + (wrong[0],)), ZERO, (wrong[2],)))
        self.check(("node", BEFORE, (-6, (7, 0, 0), None, ())), chart=with_item(with_item(CHART, MAIN, ((2, (9, 0, 0), None, ()),)), BEFORE, ((-6, (7, 0, 0), None, ()),)))

    def test_entry(self):
        for entry in (ZERO, UNDER, ONE_COPY):
            self.check(("entry",), WOVEN[:3] + (entry,))
        # The main function's copy may have the node of another pile, but it needs that of the pile of it alone.
        self.check(("entry",), chart=with_item(CHART, MAIN, ((2, (1, 0, 0), None, ()),)))
        self.check(None, chart=with_item(CHART, UNDER, CHART[UNDER]))

    def test_begin(self):
        self.check(None, begins=((2,), (2, 0), (2, 1), (2, 1, 0), (2, 0, 0)))
        self.check(("begin", 0), begins=((2, 1, 2),))
        self.check(("begin", 0), begins=((2, 1, 1, 2), (2, 0)))
        self.check(("begin", 2), begins=((2,), (2, 0), (2, 1, 2), (2, 1, 2, 2)))
        self.check(("begin", 1), begins=((2, 1), (2, 1, 2), (2, 1)))

    def test_rows(self):
        for at in range(7):
            letter, rows = WOVEN[2][at]
            for wrong in (rows + (REST,), (REST,) + rows, rows[:-1] + (REST, REST)):
                self.check(("rows", at), with_copy(WOVEN, at, wrong))
        tell, rest = WOVEN[2][ZERO][1]
        chain = tell[-1]
        for wrong in (("tell", ("n", 2), chain), ("tell", SLOT, chain), ("ask", 0, ((), ("ask", None, -1))), ("put", 0, ONE, ((), ("put", 0, -1))), ("set", 0, ONE)):
            self.check(("rows", ZERO), with_copy(WOVEN, ZERO, (wrong, rest)))
        inner = rest[2][0]
        for wrong in (("get", 1, 0, inner[-1]), REST):
            self.check(("rows", ZERO), with_copy(WOVEN, ZERO, (tell, rest[:2] + ((wrong,), ()))))
        self.check(("rows", ZERO), with_copy(WOVEN, ZERO, (tell, rest[:2] + ((), ()))))
        self.check(("rows", ZERO), with_copy(WOVEN, ZERO, (tell, rest[:2] + ((inner,), (inner,)))))
        self.check(("rows", ZERO), with_copy(WOVEN, ZERO, (tell, rest[:2] + ((), (inner,)))))
        self.check(("rows", ZERO), with_copy(WOVEN, ZERO, (tell, ("if", ONE, (inner,), ()))))
        self.check(("rows", UNDER), with_copy(with_copy(WOVEN, MAIN, ()), UNDER, ()))

    def test_links(self):
        node = CHART[UNDER][0]
        tells = ("tell", None, -1)
        self.check(("chain", UNDER, (0,), node), with_chain(WOVEN, UNDER, 0, ((), tells)))
        self.check(("chain", UNDER, (0,), node), with_chain(WOVEN, UNDER, 0, (((0, BEFORE), (2, BEHIND)), tells)))
        for place in (1, 2):
            self.check(("chain", UNDER, (0,), node), with_chain(WOVEN, UNDER, 0, (((place, BEFORE),), tells)))
        for linked in (BEHIND, AROUND):
            self.check(("chain", UNDER, (0,), node), with_chain(WOVEN, UNDER, 0, (((0, linked),), tells)))
        # An aside that does not fit at the other copy's node.
        self.check(("chain", ZERO, (0,), CHART[ZERO][0]), with_chain(WOVEN, ZERO, 0, (((0, BEFORE),), tells)))

    def test_deeds(self):
        main, zero = CHART[MAIN][0], CHART[ZERO][0]
        for deed in (None, ("call", 0, UNDER), ("call", 0, ONE_COPY), ("call", 0, MAIN), ("call", 1, ZERO), ("tell", None, -1), ("get", 0, -1)):
            self.check(("chain", MAIN, (0,), main), with_chain(WOVEN, MAIN, 0, ((), deed)))
        for deed in (None, ("ask", None, -1), ("get", 0, -1), ("put", 0, -1), ("call", 0, ZERO)):
            self.check(("chain", ZERO, (0,), zero), with_chain(WOVEN, ZERO, 0, ((), deed)))
        tell, rest = WOVEN[2][ZERO][1]
        inner = rest[2][0]
        for deed in (("get", 0, -1), ("tell", None, -1)):
            wrong = (tell, rest[:2] + ((inner[:-1] + ((inner[-1][0], deed),),), ()))
            self.check(("chain", ZERO, (1, 0, 0), zero), with_copy(WOVEN, ZERO, wrong))

    def test_copies_that_are_none(self):
        # The last copy has the node, but -1 is no copy; nor are numbers beyond the last one.
        program = ((), ((0, (TELL,)), (0, (CALL,))))
        woven, chart = weave(program, (), ())
        woven, chart = woven[:2] + ((woven[2][1], woven[2][0]), 0), chart[::-1]
        self.assertEqual(judge(program, (), (), with_chain(woven, 0, 0, ((), ("call", 0, 1))), chart), None)
        for wrong in (-1, 2, 99):
            told = judge(program, (), (), with_chain(woven, 0, 0, ((), ("call", 0, wrong))), chart)
            self.assertEqual(told, ("chain", 0, (0,), function(1)))

    def test_deeds_of_other_numbers(self):
        program = ((1, 2), ((0, (("get", 0, 0), ("put", 1, ONE))),))
        woven, chart = weave(program, (), ())
        self.check(None, woven, chart, (), program, ())
        self.check(("chain", 0, (0,), function(0)), with_chain(woven, 0, 0, ((), ("get", 1, -1))), chart, (), program, ())
        self.check(("chain", 0, (1,), function(0)), with_chain(woven, 0, 1, ((), ("put", 0, -1))), chart, (), program, ())
        self.check(("chain", 0, (1,), function(0)), with_chain(woven, 0, 1, ((), ("get", 1, -1))), chart, (), program, ())

    def test_chains_of_rows_that_are_not_come_to(self):
        program = ((1,), ((0, (("answer", ONE), TELL)),))
        woven, chart = weave(program, (), ())
        self.check(("chain", 0, (1,), function(0)), with_chain(woven, 0, 1, ((), ("tell", None, -1))), chart, (), program, ())
        again, chart = weave(program, (), ((0,),))
        self.assertNotEqual(again, woven)
        self.check(None, again, chart, ((0,),), program, ())
        self.check(("chain", 0, (1,), function(0)), again, chart, (), program, ())
        self.check(("chain", 0, (1,), function(0)), woven, chart, ((0,),), program, ())

    def test_the_first_chain(self):
        wrong = WOVEN
        for at in (MAIN, ONE_COPY, UNDER, ZERO, AROUND):
            for place in (1, 0) if at in (MAIN, AROUND) else (0,):
                wrong = with_chain(wrong, at, place, ((), None))
                self.check(("chain", at, (place,), CHART[at][0]), wrong)

    def test_the_first_node_of_an_item(self):
        # Both nodes of the aside around open what is behind them; the item of that without one of them is not enough.
        first, second = CHART[BEHIND]
        for at, kept in ((1, first), (0, second)):
            self.check(("chain", AROUND, (0,), CHART[AROUND][at]), chart=with_item(CHART, BEHIND, (kept,)))
        self.check(("chain", ZERO, (0,), CHART[UNDER][0]), chart=with_item(CHART, ZERO, CHART[ZERO] + CHART[UNDER]))
        self.check(("chain", UNDER, (0,), CHART[ZERO][0]), chart=with_item(CHART, UNDER, CHART[ZERO] + CHART[UNDER]))

    def test_the_row_goes_ahead_of_the_node(self):
        # At the row 0 the second node's chain is unlike, at the row 1 the first one's is.
        program = ((), ((0, (TELL, ("ask", 0))), (0, (CALL,)), (0, (CALL, ("call", 0, 1, ())))))
        under = aside(1, "before", TELLS, BELOW, SLOT)
        apart = aside(2, "before", (("ask", None),), ("not", BELOW), SLOT)
        woven, chart = weave(program, (under, apart), ())
        zero, other = copies_of(woven, 0)
        first, second = chart[zero][0], chart[other][0]
        both = tuple(sorted((first, second)))
        for at, rows in ((zero, woven[2][zero][1]), (other, woven[2][other][1])):
            unlike = second if at == zero else first
            self.check(("chain", at, (0,), unlike), woven, with_item(chart, at, both), (), program, (under, apart))
            mixed = (woven[2][zero][1][0], woven[2][other][1][1])
            self.check(("chain", at, (0,), second), with_copy(woven, at, mixed), with_item(chart, at, both), (), program, (under, apart))

    def test_more_copies_than_needed(self):
        twice = WOVEN[:2] + (WOVEN[2] + (WOVEN[2][ZERO],), MAIN)
        self.check(None, twice, CHART + (CHART[ZERO],))
        # Either of the two may be called, as both have the node.
        self.check(None, with_chain(twice, MAIN, 0, ((), ("call", 0, 7))), CHART + (CHART[ZERO],))
        self.assertEqual((CHART[ZERO], CHART[UNDER]), (((0, (0, 0, 0), None, ()),), ((0, (1, 0, 0), None, ()),)))
        self.check(("chain", MAIN, (0,), CHART[MAIN][0]), with_chain(twice, MAIN, 0, ((), ("call", 0, 7))), CHART + (CHART[UNDER],))
        self.check(("chart", "form"), twice)

    def test_nodes_that_are_not_come_to(self):
        # Copies may stand for more nodes, as long as their chains agree.
        other = (1, (0, 0, 0), None, ())
        self.assertNotIn(other, nodes(PROGRAM, ASIDES, ()))
        self.check(("chain", ONE_COPY, (0,), other), chart=with_item(CHART, ONE_COPY, (other,) + CHART[ONE_COPY]))
        main = (2, (1, 0, 0), None, ())
        self.check(("chain", MAIN, (0,), main), chart=with_item(CHART, MAIN, CHART[MAIN] + (main,)))
        woven = WOVEN[:2] + (WOVEN[2] + ((2, (("call", 0, 0, (), ((), ("call", 0, UNDER))), WOVEN[2][MAIN][1][1])),), MAIN)
        self.check(None, woven, CHART + ((main,),))
        self.check(None, woven, CHART + ((main,),), ((2, 1, 2),))

    def test_each_ahead_of_those_behind_it(self):
        def cells(woven, chart, begins):
            return ((9,),) + woven[1:], chart, begins

        def tests(woven, chart, begins):
            return (woven[0], woven[1][:-1]) + woven[2:], chart, begins

        def chart_form(woven, chart, begins):
            return woven, with_item(chart, BEHIND, ()), begins

        def node(woven, chart, begins):
            return woven, with_item(chart, BEFORE, ((-6, (9, 0, 0), None, ()),)), begins

        def entry(woven, chart, begins):
            return woven[:3] + (UNDER,), chart, begins

        def begin(woven, chart, begins):
            return woven, chart, ((2, 1, 2),)

        def rows(woven, chart, begins):
            return with_copy(woven, UNDER, (REST,)), chart, begins

        def chain(woven, chart, begins):
            return with_chain(woven, AROUND, 0, ((), None)), chart, begins

        faults = (cells, tests, chart_form, node, entry, begin, rows, chain)
        told = ("cells", "tests", ("chart", ("copy", BEHIND)), ("node", BEFORE, (-6, (9, 0, 0), None, ())), ("entry",), ("begin", 0), ("rows", UNDER), ("chain", AROUND, (0,), CHART[AROUND][0]))
        for first in range(len(faults)):
            for second in range(first, len(faults)):
                handed = faults[first](*faults[second](WOVEN, CHART, ()))
                self.check(told[first], *handed)
            handed = (WOVEN, CHART, ())
            for fault in reversed(faults[first:]):
                handed = fault(*handed)
            self.check(told[first], *handed)


class TooManyOf(Judged):
    def raised(self, limit, program, asides, begins, woven, chart):
        for call in (judge, judged):
            with self.assertRaises(TooMany) as caught:
                call(program, asides, begins, woven, chart)
            self.assertEqual(caught.exception.limit, limit)

    def test_states(self):
        asides = (aside(5, "before", TELLS, WINDOW),)
        woven = ((4,), (("before", ONE),), ((2, ()),), 0)
        chart = (((2, (999,), None, ()),),)
        self.raised(64, PROGRAM, asides, (), woven, chart)
        # What is told ahead of it goes ahead.
        self.check("cells", ((),) + woven[1:], chart, (), PROGRAM, asides)
        self.check("tests", (woven[0], ()) + woven[2:], chart, (), PROGRAM, asides)
        for wrong in (None, (), chart * 2):
            self.check(("chart", "form"), woven, wrong, (), PROGRAM, asides)
        self.check(("chart", ("copy", 0)), woven, ((),), (), PROGRAM, asides)

    def test_nodes(self):
        program, asides = ((), ((0, (CALL,)),)), counting(14, 13, 11)
        woven = ((), (("before", ONE),) * 3, ((0, (("call", 0, 0, (), ((), ("call", 0, 0))),)),), 0)
        chart = (((0, (1, 1, 1), None, ()),),)
        self.raised(2000, program, asides, (), woven, chart)
        for wrong in (((0, (99, 1, 1), None, ()),),), (((0, (0, 1, 1), None, ()),),):
            self.raised(2000, program, asides, (), woven, wrong)
        self.check("cells", ((1,),) + woven[1:], chart, (), program, asides)
        self.check("tests", ((), ()) + woven[2:], chart, (), program, asides)
        self.check(("chart", ("copy", 0)), woven, ((),), (), program, asides)

    # The main function does nothing; 0 calls itself at 14 * 13 * 11 = 2002 lots of states, 1 at none.
    QUIET = ((), ((0, (CALL,)), (0, ()), (0, ())))
    WOVEN = ((), (("before", ONE),) * 3, ((0, (("call", 0, 0, (), ((), ("call", 0, 0))),)), (1, ()), (2, ())), 2)
    MAIN = (2, (1, 1, 1), None, ())

    def test_nodes_from_a_node_of_the_chart(self):
        asides = counting(14, 13, 11)
        self.assertEqual(nodes(self.QUIET, asides, ()), (self.MAIN,))
        one = (1, (0, 0, 0), None, ())
        for zero in ((0, (0, 0, 0), None, ()), (0, (5, 6, 7), None, ())):
            self.raised(2000, self.QUIET, asides, (), self.WOVEN, ((zero,), (one,), (self.MAIN,)))
            # It goes ahead of what is told of nodes, by copies ahead of it and behind it, and of all behind these.
            self.raised(2000, self.QUIET, asides, (), self.WOVEN, ((zero,), ((1, (99, 0, 0), None, ()),), (self.MAIN,)))
            self.raised(2000, self.QUIET, asides, (), self.WOVEN, ((zero, (0, (99, 0, 0), None, ())), (one,), (self.MAIN,)))
            self.raised(2000, self.QUIET, asides, (), self.WOVEN[:3] + (0,), ((zero,), (one,), (self.MAIN,)))
        # What is no node comes to nothing.
        wrong = (0, (0, 0, 99), None, ())
        self.check(("node", 0, wrong), self.WOVEN, ((wrong,), (one,), (self.MAIN,)), (), self.QUIET, asides)
        self.check(("chart", ("copy", 1)), self.WOVEN, ((zero,), (), (self.MAIN,)), (), self.QUIET, asides)

    def test_two_thousand_from_each_node_but_more_from_all(self):
        # 14 * 11 * 9 = 1386 lots of states for each of the functions 0 and 1.
        program, asides = ((), ((0, (CALL,)), (0, (("call", 0, 1, ()),)), (0, ()))), counting(14, 11, 9)
        woven = self.WOVEN[:2] + ((self.WOVEN[2][0], (1, (("call", 0, 1, (), ((), ("call", 1, 1))),)), (2, ())), 2)
        zero, one = (0, (0, 0, 0), None, ()), (1, (0, 0, 0), None, ())
        told = judge(program, asides, (), woven, ((zero,), (one,), (self.MAIN,)))
        self.assertEqual(told, ("chain", 0, (0,), zero))
        # The function 2 of this one calls both: its nodes come to more.
        both = ((), program[1][:2] + ((0, (("try", (CALL,), (3,), 0, ()), ("call", 0, 1, ()))), (0, ())))
        woven = woven[:2] + (woven[2][:2] + ((2, ()), (3, ())), 3)
        two, main = (2, (0, 0, 0), None, ()), (3, (1, 1, 1), None, ())
        self.check(("node", 2, (2, (99, 0, 0), None, ())), woven, ((zero,), (one,), ((2, (99, 0, 0), None, ()),), (main,)), (), both, asides)
        for item in ((zero,), (zero, (0, (0, 0, 1), None, ()))):
            self.raised(2000, both, asides, (), woven, (item, (one,), (two,), (main,)))
        with self.assertRaises(TooMany):
            chains(both, asides, (), two)

    def test_just_two_thousand_from_a_node_of_the_chart(self):
        # As many nodes as 1980 lots of states, and 1 + 2 + 3 + 4 more for the functions 1 to 4, and one for each further one.
        asides = tuple(aside(name, "before", (("ask", None),), ("star", ("row", (("any",),) * length))) for name, length in enumerate((4, 9, 5, 11)))
        for further, many in ((0, 1996), (3, 1999), (4, 2000), (5, 2001)):
            functions = [(CALL,)] + [(("call", 0, f + 1, ()),) for f in range(1, 5)] + [()] * (1 + further)
            hub = len(functions)
            functions.append(tuple(("call", 0, f, ()) for f in range(1, hub)) + (CALL,))
            program = ((), tuple((0, rows) for rows in functions + [()]))
            main = (hub + 1, (1, 1, 1, 1), None, ())
            node = (hub, (0, 0, 0, 0), None, ())
            woven = ((), (("before", ONE),) * 4, ((hub, ()), (hub + 1, ())), 1)
            # The main function opens nothing: all comes of the one node, and there is one more of the main function.
            self.assertEqual(nodes(program, asides, ()), (main,))
            if many > 2000:
                self.raised(2000, program, asides, (), woven, ((node,), (main,)))
            else:
                self.check(("rows", 0), woven, ((node,), (main,)), (), program, asides)

    def test_two_thousand_copies(self):
        program = ((), ((1, (("if", SLOT, (("call", 0, 0, (SLOT,)), TELL), ()),)), (0, (("call", 0, 0, (ONE,)),))))
        asides = tuple(aside(name, "behind", TELLS, ("star", ("row", (("any",),) * length)), SLOT) for name, length in enumerate((7, 11, 13)))
        woven, chart = weave(program, asides, ())
        with few_calls():
            self.assertIsNone(judge(program, asides, (), woven, chart))
        last = len(chart) - 2
        self.assertEqual(woven[2][last][0], 0)
        place, (links, deed) = places_of(woven[2][last][1])[0]
        wrong = with_copy(woven, last, mapped(woven[2][last][1], lambda at, number, old: (old + 1) if at == place and woven[2][old + 1][0] == 0 else old - 1 if at == place else old))
        with few_calls():
            self.assertEqual(judge(program, asides, (), wrong, chart), ("chain", last, place, chart[last][0]))


class Compared(Judged):
    def mutated(self, source, woven, chart, begins):
        """Something in the weaving, in its chart or in begins is another thing."""
        cells, tests, copies, entry = woven
        pick = source.randrange(9)
        at = source.randrange(len(copies))
        letter, rows = copies[at]
        if pick == 0:
            return (cells, tests, copies, source.randrange(len(copies))), chart, begins
        if pick == 1:
            return woven, with_item(chart, at, chart[source.randrange(len(chart))]), begins
        if pick == 2:
            node = chart[at][source.randrange(len(chart[at]))]
            states = tuple(max(0, state + source.choice((-1, 0, 0, 1))) for state in node[1])
            return woven, with_item(chart, at, tuple(sorted({*chart[at], (node[0], states) + node[2:]}))), begins
        if pick == 3 and len(chart[at]) > 1:
            return woven, with_item(chart, at, tuple(source.sample(chart[at], len(chart[at]) - 1))), begins
        if pick == 4:
            main = copies[entry][0]
            return woven, chart, begins + ((main,) + tuple(source.randrange(main + 1) for _ in range(source.randint(0, 2))),)
        if pick == 5:
            changed = mapped(rows, lambda place, number, old: source.choice([
                other for other in range(len(copies)) if (copies[other][0] < 0) == (copies[old][0] < 0)
            ]) if source.random() < 0.4 else old)
            return (cells, tests, with_item(copies, at, (letter, changed)), entry), chart, begins
        if pick == 6 and rows:
            return (cells, tests, with_item(copies, at, (letter, rows[1:])), entry), chart, begins
        moments = [number for number, row in enumerate(rows) if row[0] in ("get", "put", "call", "tell", "ask", "on")]
        if not moments:
            return woven, chart, begins
        place = source.choice(moments)
        links, deed = rows[place][-1]
        if source.random() < 0.5 and links:
            links = links[1:]
        else:
            deed = None if deed and source.random() < 0.5 else (deed or ("tell", None, -1))
        changed = with_item(rows, place, rows[place][:-1] + ((links, deed),))
        return (cells, tests, with_item(copies, at, (letter, changed)), entry), chart, begins

    def test_made_and_mutated(self):
        told = {}
        for seed in range(400):
            program, asides, begins = made(seed % 100)
            source = random.Random(seed)
            woven, chart = other_weaving(source, program, asides, begins)
            for _ in range(source.randint(1, 2)):
                woven, chart, begins = self.mutated(source, woven, chart, begins)
            with self.subTest(seed=seed):
                answer = judge(program, asides, begins, woven, chart)
                self.assertEqual(repr(answer), repr(judged(program, asides, begins, woven, chart)))
            told[answer and answer[0]] = told.get(answer and answer[0], 0) + 1
            if answer is None:
                for steps in (5, 60):
                    inputs = tuple(source.choice(NUMBERS) for _ in range(source.randint(0, 5)))
                    self.assertEqual(run_woven(woven, inputs, steps), run(program, asides, inputs, steps))
                    choices = tuple(source.choice((0, 0, 0, 1, 2, 9)) for _ in range(steps // 2))
                    self.assertEqual(free_woven(woven, choices), free_run(program, asides, choices))
                self.assertGreaterEqual(len(woven[2]), len(weave(program, asides, begins)[1]))
        for word in (None, "chart", "node", "entry", "begin", "rows", "chain"):
            self.assertGreater(told.get(word, 0), 2, told)

    def test_the_same_again_and_nothing_changed(self):
        for seed in range(20):
            program, asides, begins = made(seed)
            source = random.Random(seed)
            woven, chart = other_weaving(source, program, asides, begins)
            handed = (program, asides, begins) + self.mutated(source, woven, chart, ())[:2]
            kept, before = copy.deepcopy(handed), repr(handed)
            told = repr(judge(*handed))
            self.assertEqual(repr(judge(*kept)), told)
            named = dict(zip(("program", "asides", "begins", "woven", "chart"), handed))
            self.assertEqual(repr(judge(**dict(reversed(list(named.items()))))), told)
            self.assertEqual(repr(handed), before)


if __name__ == "__main__":
    unittest.main()
