"""What classes, classes_hold, parting and parting_holds tell: [F4] to [F6]."""

import copy
import itertools
import random
import unittest

from asidewoven.classes import classes, classes_hold, parting, parting_holds
from asidewoven.errors import AsideError, NoPart, TooMany
from asidewoven.nodes import all_chains, nodes
from free_oracle import Marking
from node_oracle import NodeOracle
from samples import NO_TUPLES, ONE
from test_nodes import CALL, EVERY, QUOTIENT, SLOT, SUM, TELL, TELLS, aside, function, made
from test_ways import caught

# Tells of piles in which 1 is.
BELOW = ("row", (EVERY, ("letters", (1,)), EVERY))
# 2 calls 0 and 1, 1 calls 0.
PROGRAM = ((4,), ((0, (TELL, ("get", 0, 0))), (0, (CALL,)), (0, (CALL, ("call", 0, 1, ())))))


def coarsest(program, asides, begins):
    """The classes once more: cut by letters and chains until no class has to be cut any further."""
    told = dict(all_chains(program, asides, begins))
    lot = {node: node[0] for node in told}
    while True:
        marks = {}
        for node, rows in told.items():
            row = tuple(
                (place, tuple((at, lot[linked]) for at, linked in links),
                 deed and (deed[0], deed[1], deed[2] and lot[deed[2]])) for place, links, deed in rows
            )
            marks[node] = (lot[node], row)
        numbers = {mark: number for number, mark in enumerate(dict.fromkeys(marks[node] for node in sorted(marks)))}
        further = {node: numbers[marks[node]] for node in marks}
        if len(set(further.values())) == len(set(lot.values())):
            break
        lot = further
    lots = {}
    for node in sorted(lot):
        lots.setdefault(lot[node], []).append(node)
    return tuple(sorted(tuple(members) for members in lots.values()))


class Classes(unittest.TestCase):
    def check(self, program, asides, *wanted, begins=()):
        with self.subTest(program=program, asides=asides):
            self.assertEqual(repr(classes(program, asides, begins)), repr(wanted))
            self.assertIs(classes_hold(program, asides, begins, wanted), True)

    def test_by_the_letter(self):
        self.check(PROGRAM, (), (function(0),), (function(1),), (function(2),))
        # Two functions with the same rows are two classes.
        self.check(((), ((0, ()), (0, ()), (0, (CALL, ("call", 0, 1, ()))))), (), (function(0),), (function(1),), (function(2),))

    def test_one_class_and_several(self):
        quiet = (aside(5, "before", TELLS, BELOW, ("n", 0)),)
        self.check(PROGRAM, quiet, (function(0, 0), function(0, 1)), (function(1, 1),), (function(2, 0),))
        for test in (ONE, SLOT, QUOTIENT):
            for form in ("before", "behind", "around"):
                asides = (aside(5, form, TELLS, BELOW, test),)
                body = (-6, (1,), ("tell", None), ()) if form == "around" else (-6, (1,), None, ())
                self.check(PROGRAM, asides, (body,), (function(0, 0),), (function(0, 1),), (function(1, 1),), (function(2, 0),))

    def test_moments_that_do_not_come(self):
        asides = (aside(5, "before", (("ask", None),), BELOW),)
        self.check(PROGRAM, asides, (function(0, 0), function(0, 1)), (function(1, 1),), (function(2, 0),))

    def test_by_what_nodes_open_further_down(self):
        # 3 and 2 call 1, 1 calls 0, 0 tells; the aside is run there if 2 is below.
        part = ("row", (EVERY, ("letters", (2,)), EVERY))
        program = ((), ((0, (TELL,)), (0, (CALL,)), (0, (("call", 0, 1, ()),)), (0, (("call", 0, 1, ()), ("call", 0, 2, ())))))
        asides = (aside(5, "before", TELLS, part),)
        self.check(program, asides, ((-6, (1,), None, ()),), (function(0, 0),), (function(0, 1),), (function(1, 0),), (function(1, 1),),
                   (function(2, 1),), (function(3, 0),))
        self.check(program, (asides[0][:4] + (("n", 0), ()),), (function(0, 0), function(0, 1)), (function(1, 0), function(1, 1)),
                   (function(2, 1),), (function(3, 0),))

    def test_rows_that_are_not_runnable_count_as_nothing(self):
        program = ((), ((0, (("answer", ONE), TELL)), (0, (CALL,)), (0, (CALL, ("call", 0, 1, ())))))
        asides = (aside(5, "before", TELLS, BELOW),)
        self.check(program, asides, (function(0, 0), function(0, 1)), (function(1, 1),), (function(2, 0),))
        self.check(program, asides, ((-6, (1,), None, ()),), (function(0, 0),), (function(0, 1),), (function(1, 1),), (function(2, 0),),
                   begins=((2, 0), (2, 1, 0)))

    def test_moments_and_rests_of_around_nodes(self):
        # The around aside is run at both gets of a cell, and its body does the same whatever the moment is.
        program = ((1, 2), ((0, (("get", 0, 0), ("get", 0, 1))),))
        gets = (("get", None),)
        for rows, many in (((TELL,), 1), ((("on", 0, ()),), 2), ((("answer", ONE), ("on", 0, ())), 1)):
            asides = (aside(0, "around", gets, EVERY, ONE, rows),)
            first, second = ((-1, (0,), ("get", cell), ()) for cell in (0, 1))
            self.check(program, asides, *(((first, second),) if many == 1 else ((first,), (second,))), (function(0, 0),))

    def test_rests_with_quiet_asides(self):
        # At tells with 1 below there is a quiet aside besides, so that the rests are unlike, but not what is done.
        asides = (aside(1, "around", TELLS, EVERY, ONE, (("on", 0, ()),)), aside(2, "before", TELLS, BELOW, ("n", 0)))
        told = classes(PROGRAM, asides, ())
        self.assertEqual([len(members) for members in told], [2, 2, 1, 1])
        self.assertEqual({node[3] for node in told[0]}, {(), (1,)})

    def test_begins(self):
        asides = (aside(5, "before", TELLS, BELOW),)
        self.assertEqual(len(classes(PROGRAM, asides, ((2, 0, 0), (2, 1, 1)))), 5)
        program = ((), ((0, (TELL,)), (0, (CALL,)), (0, (CALL,))))
        self.check(program, asides, (function(0, 0),), (function(2, 0),))
        self.check(program, asides, ((-6, (1,), None, ()),), (function(0, 0),), (function(0, 1),), (function(1, 1),), (function(2, 0),),
                   begins=((2, 1), (2,), (2, 1)))

    def test_made(self):
        for seed in range(200):
            program, asides, begins = made(seed)
            with self.subTest(seed=seed):
                told = classes(program, asides, begins)
                self.assertEqual(repr(told), repr(coarsest(program, asides, begins)))
                self.assertIs(classes_hold(program, asides, begins, told), True)
                self.assertEqual(sorted(node for members in told for node in members), list(nodes(program, asides, begins)))

    def test_a_long_row_of_cuts(self):
        # Functions count up to 1980 states; one state more and more is cut off from the others by the aside far away.
        asides = tuple(aside(at, "before", (("ask", None),), ("star", ("row", (("any",),) * many)), test)
                       for at, (many, test) in enumerate(((13, ONE), (11, ONE))))
        program = ((), ((0, (caught(0), ("ask", 0))), (0, (CALL,))))
        told = classes(program, asides, ())
        self.assertEqual(len(told), len(coarsest(program, asides, ())))
        self.assertGreater(len(told), 143)


class ClassesHold(unittest.TestCase):
    QUIET = (aside(5, "before", TELLS, BELOW, ("n", 0)),)
    RUN = (aside(5, "before", TELLS, BELOW),)
    ALL = (function(0, 0), function(0, 1), function(1, 1), function(2, 0))

    def refuse(self, asides, *values, begins=()):
        for value in values:
            with self.subTest(value=repr(value)[:200]):
                before = repr(value)
                self.assertIs(classes_hold(PROGRAM, asides, begins, value), False)
                self.assertEqual(repr(value), before)

    def test_each_node_by_itself(self):
        for asides in (self.QUIET, self.RUN):
            told = nodes(PROGRAM, asides, ())
            self.assertIs(classes_hold(PROGRAM, asides, (), tuple((node,) for node in told)), True)

    def test_coarser_than_the_classes(self):
        body = ((-6, (1,), None, ()),)
        zero, under, one, two = self.ALL
        self.assertIs(classes_hold(PROGRAM, self.RUN, (), (body, (zero,), (under,), (one,), (two,))), True)
        self.refuse(self.RUN, (body, (zero, under), (one,), (two,)), (body, (zero,), (under,), (one, two)), (body + (zero,), (under,), (one,), (two,)))

    def test_unlike_chains_of_nodes_in_one_letter(self):
        # Here 1 opens the unlike nodes of 0, so neither can its own nodes be one part.
        part = ("row", (EVERY, ("letters", (2,)), EVERY))
        program = ((), ((0, (TELL,)), (0, (CALL,)), (0, (("call", 0, 1, ()),)), (0, (("call", 0, 1, ()), ("call", 0, 2, ())))))
        quiet = (aside(5, "before", TELLS, part, ("n", 0)),)
        zero, one = (function(0, 0), function(0, 1)), (function(1, 0), function(1, 1))
        rest = ((function(2, 1),), (function(3, 0),))
        self.assertIs(classes_hold(program, quiet, (), (zero, one) + rest), True)
        self.assertIs(classes_hold(program, quiet, (), (zero, one[:1], one[1:]) + rest), True)
        self.assertIs(classes_hold(program, quiet, (), (zero[:1], zero[1:], one[:1], one[1:]) + rest), True)
        self.assertIs(classes_hold(program, quiet, (), (zero[:1], zero[1:], one) + rest), False)

    def test_orders(self):
        zero, under, one, two = self.ALL
        self.assertIs(classes_hold(PROGRAM, self.QUIET, (), ((zero, under), (one,), (two,))), True)
        self.refuse(self.QUIET, ((under, zero), (one,), (two,)), ((zero, under), (two,), (one,)), ((two,), (one,), (zero, under)),
                    ((under,), (zero,), (one,), (two,)))

    def test_each_node_once(self):
        zero, under, one, two = self.ALL
        self.refuse(
            self.QUIET, (), ((zero, under), (one,)), ((zero,), (one,), (two,)), ((zero, under), (under,), (one,), (two,)), ((zero, zero, under), (one,), (two,)),
            ((zero, under), (one,), (one,), (two,)), ((zero, under), (one,), (two,), ()), ((), (zero, under), (one,), (two,)),
            ((zero, under), (one, function(1, 0)), (two,)), (((-6, (1,), None, ()),), (zero, under), (one,), (two,)),
            ((zero, under), (function(1, 0), one), (two,)), ((zero, under), (one,), (two, function(2, 1))),
        )

    def test_values_of_other_kinds(self):
        zero, under, one, two = self.ALL
        right = ((zero, under), (one,), (two,))
        self.assertIs(classes_hold(PROGRAM, self.QUIET, (), right), True)
        self.refuse(
            self.QUIET, *NO_TUPLES, list(right), ((zero, under), [one], (two,)), ([zero, under], (one,), (two,)), (zero, under, one, two),
            ((zero, (0, [1], None, ())), (one,), (two,)), ((zero, under), ((1, (True,), None, ()),), (two,)), ((zero, under), (one,), None),
            (((False, (0,), None, ()), under), (one,), (two,)), ((zero, under), ((True, (1,), None, ()),), (two,)), ((zero, under), (one,), (None,)),
            ((zero, under), (one,), ((2, (0,), None, []),)), ((zero, under), (one,), ([2, (0,), None, ()],)), ((zero, under), ({},), (two,)),
            ((zero, under), (one,), (two,), 3), ((zero, under), ("one",), (two,)), (("", 1), (one,), (two,)), ((zero, under), one, (two,)),
        )

    def test_begins(self):
        zero, under, one, two = self.ALL
        right = ((zero, under), (one,), (two,))
        self.assertIs(classes_hold(PROGRAM, self.QUIET, ((2, 1),), right), True)
        self.refuse(self.QUIET, right, begins=((2, 1, 2),))
        self.refuse(self.QUIET, right, begins=((2, 1, 1), (2, 1), (2, 1, 0, 1, 2)))

    def test_made(self):
        for seed in range(60):
            program, asides, begins = made(seed)
            told = classes(program, asides, begins)
            self.assertIs(classes_hold(program, asides, begins, tuple((node,) for node in nodes(program, asides, begins))), True)
            for at, members in enumerate(told):
                if len(members) > 1:
                    joined = tuple(sorted(told[:at] + told[at + 1:] + ((members[0],), members[1:])))
                    parts = [set(part) for part in joined]
                    lot = {node: number for number, part in enumerate(parts) for node in part}
                    self.assertIs(classes_hold(program, asides, begins, joined), self.holds(program, asides, begins, joined, lot))
            for one, other in zip(told, told[1:]):
                joined = tuple(sorted(tuple(part) for part in told if part not in (one, other)) + [tuple(sorted(one + other))])
                self.assertIs(classes_hold(program, asides, begins, tuple(sorted(joined))), False)

    def holds(self, program, asides, begins, value, lot):
        told = dict(all_chains(program, asides, begins))
        for part in value:
            rows = {repr([(place, [(at, lot[linked]) for at, linked in links], deed and (deed[:2], deed[2] and lot[deed[2]]))
                          for place, links, deed in told[node]]) for node in part}
            if len(rows) > 1:
                return False
        return True


class Parting(unittest.TestCase):
    def check(self, program, asides, node, other, fewest=None):
        """parting returns a triple that parts the two, with so few choices in its three tuples if told."""
        with self.subTest(node=node, other=other):
            told = parting(program, asides, node, other)
            self.assertIs(told.__class__, tuple)
            ahead, mate, further = told
            self.assertTrue(all(choice.__class__ is int and 0 <= choice <= 9 for choices in told for choice in choices))
            self.assertTrue(all(choices.__class__ is tuple for choices in told))
            self.assertIs(parting_holds(program, asides, node, other, told), True)
            self.assertNotEqual(notes_behind(program, asides, ahead, further), notes_behind(program, asides, mate, further))
            self.assertEqual(node_of(program, asides, ahead), node)
            self.assertEqual(node_of(program, asides, mate), other)
            if fewest is not None:
                self.assertLessEqual(tuple(len(choices) for choices in told), fewest)

    def refuse(self, program, asides, node, other):
        with self.subTest(node=node, other=other):
            with self.assertRaises(AsideError) as raised:
                parting(program, asides, node, other)
            self.assertIs(raised.exception.__class__, NoPart)
            self.assertEqual(repr((raised.exception.node, raised.exception.other)), repr((node, other)))
            for value in (((0,), (0,), ()), ((0, 0), (0, 0, 0, 0), ()), ((), (), ())):
                self.assertIs(parting_holds(program, asides, node, other, value), False)

    def test_by_a_link(self):
        for form in ("before", "behind", "around"):
            for test in (ONE, SLOT):
                asides = (aside(5, form, TELLS, BELOW, test, (("on", 0, ()),) if form == "around" else ()),)
                self.check(PROGRAM, asides, function(0, 0), function(0, 1), (2, 4, 0))
                self.check(PROGRAM, asides, function(0, 1), function(0, 0), (4, 2, 0))

    def test_where_none_is_due(self):
        quiet, run = (aside(5, "before", TELLS, BELOW, ("n", 0)),), (aside(5, "before", TELLS, BELOW),)
        zero, under, one, two, body = function(0, 0), function(0, 1), function(1, 1), function(2, 0), (-6, (1,), None, ())
        self.refuse(PROGRAM, quiet, zero, under)
        for node in (zero, under, one, two, body):
            self.refuse(PROGRAM, run, node, node)
        self.refuse(PROGRAM, run, zero, one)
        self.refuse(PROGRAM, run, body, under)
        self.refuse(PROGRAM, run, function(1, 0), one)
        self.refuse(PROGRAM, run, one, function(1, 0))
        self.refuse(PROGRAM, quiet, body, body)

    def test_values_of_other_kinds(self):
        asides = (aside(5, "before", TELLS, BELOW),)
        zero, under = function(0, 0), function(0, 1)
        for value in NO_TUPLES + ((), (0,), (0, (0,), None), [0, (0,), None, ()], (0, [0], None, ()), (0, (True,), None, ()), (False, (1,), None, ())):
            self.refuse(PROGRAM, asides, value, under)
            self.refuse(PROGRAM, asides, zero, value)
            self.refuse(PROGRAM, asides, value, value)

    def test_choices_ahead_of_the_unlike_notes(self):
        rows = (("if", SLOT, (("set", 0, QUOTIENT), ("try", (("ask", 0),), (2,), 0, (TELL,))), ()),)
        program = ((), ((0, rows), (0, (CALL,)), (0, (CALL, ("call", 0, 1, ())))))
        asides = (aside(5, "before", TELLS, BELOW),)
        # The if goes into its first rows, the quotient has no fault, the ask has one.
        self.check(program, asides, function(0, 0), function(0, 1), (2, 5, 3))

    def test_faults_that_go_there(self):
        rows = (("try", (("set", 0, ("part", SUM, ONE)),), (1,), 0, (TELL,)),)
        program = ((), ((0, rows), (0, (("try", (CALL,), (0,), 0, ()),)), (0, (("try", (CALL,), (0,), 0, ()), ("call", 0, 1, ())))))
        asides = (aside(5, "before", TELLS, BELOW),)
        self.check(program, asides, function(0, 0), function(0, 1), (2, 5, 1))

    def check_behind(self, row, kind, fewest, asides=(), ahead=()):
        """The nodes of function 0 are unlike behind a fault of this kind alone that this row has."""
        rows = (("try", (row,), (kind,), 0, (TELL,)),)
        call = ("try", (CALL,), tuple(range(10)), 0, ())
        main = 2 + len(ahead)
        program = ((4,), ((0, rows), (0, (call,))) + ahead + ((0, (call, ("call", 0, 1, ()))),))
        asides = (aside(5, "before", TELLS, BELOW),) + asides
        oracle = NodeOracle(program, asides, ())
        node, other = oracle.at((main, 0)), oracle.at((main, 1, 0))
        self.check(program, asides, node, other)
        self.assertEqual(len(parting(program, asides, node, other)[2]), fewest)

    def test_behind_faults_of_each_kind(self):
        gets = (("get", None),)
        call = ("call", 0, 2, ())
        self.check_behind(call, 3, 1, ahead=((0, ()),))
        self.check_behind(call, 7, 1, ahead=((0, (("fault", 7),)),))
        self.check_behind(call, 2, 2, ahead=((0, (("ask", 0),)),))
        self.check_behind(call, 7, 2, ahead=((0, (("if", SLOT, (), (("fault", 7),)),)),))
        self.check_behind(("ask", 0), 2, 1)
        self.check_behind(("set", 0, ("part", SUM, ONE)), 0, 1)
        self.check_behind(("set", 0, ("part", SUM, ONE)), 1, 1)
        self.check_behind(("fault", 9), 9, 0)
        for form in ("before", "behind", "around"):
            for test, more in ((ONE, 0), (SLOT, 1)):
                self.check_behind(("get", 0, 0), 3, 1 + more, (aside(6, form, gets, EVERY, test),))
                self.check_behind(("get", 0, 0), 7, 1 + more, (aside(6, form, gets, EVERY, test, (("fault", 7),)),))
                self.check_behind(("get", 0, 0), 2, 2 + more, (aside(6, form, gets, EVERY, test, (("ask", 0),)),))
        # An aside that is passed over, or that answers, or comes to its end, with a further one behind it.
        faulty = aside(7, "before", gets, EVERY, ONE, (("fault", 7),))
        for form, rows, few in (("before", (), 2), ("before", (("answer", ONE),), 2), ("behind", (), 2), ("around", (("on", 0, ()),), 2)):
            self.check_behind(("get", 0, 0), 7, few, (aside(6, form, gets, EVERY, ONE, rows), faulty))
        for form in ("before", "behind", "around"):
            self.check_behind(("get", 0, 0), 7, 2, (aside(6, form, gets, EVERY, SLOT, (("answer", ONE),)), faulty))
        self.check_behind(("ask", 0), 2, 2, (aside(6, "behind", (("ask", None),), EVERY, ONE),))
        self.check_behind(("ask", 0), 2, 2, (aside(6, "around", (("ask", None),), EVERY, ONE, (("on", 0, ()),)),))

    def test_further_down(self):
        part = ("row", (EVERY, ("letters", (2,)), EVERY))
        program = ((), ((0, (TELL,)), (0, (CALL,)), (0, (("call", 0, 1, ()),)), (0, (("call", 0, 1, ()), ("call", 0, 2, ())))))
        asides = (aside(5, "before", TELLS, part),)
        self.check(program, asides, function(1, 0), function(1, 1), (2, 5, 1))
        self.check(program, asides, function(0, 0), function(0, 1), (3, 6, 0))

    def test_by_the_deed_of_an_on(self):
        program = ((1, 2), ((0, (("get", 0, 0), ("get", 0, 1))),))
        asides = (aside(0, "around", (("get", None),), EVERY, ONE, (("on", 0, ()),)),)
        self.check(program, asides, (-1, (0,), ("get", 0), ()), (-1, (0,), ("get", 1), ()), (2, 3, 0))

    def test_rests_that_do_not_begin_alike(self):
        # At one of the tells there are further behind asides, so that what is noted first is the same.
        top = ("not", BELOW)
        for asides in (
            (aside(1, "behind", TELLS, top), aside(2, "before", TELLS)),
            (aside(1, "behind", TELLS, top), aside(2, "behind", TELLS, top, SLOT), aside(3, "around", TELLS, EVERY, ONE, (("on", 0, ()),))),
            (aside(1, "behind", TELLS, top), aside(2, "behind", TELLS, BELOW), aside(3, "behind", TELLS)),
            (aside(1, "before", TELLS), aside(2, "behind", TELLS, BELOW, SLOT)),
            (aside(2, "behind", TELLS, BELOW), aside(1, "behind", TELLS), aside(3, "behind", TELLS, top)),
            (aside(3, "behind", TELLS), aside(2, "behind", TELLS, BELOW), aside(1, "behind", TELLS, top)),
            (aside(3, "behind", TELLS, BELOW), aside(2, "before", TELLS, top), aside(1, "behind", TELLS, top)),
        ):
            oracle = NodeOracle(PROGRAM, asides, ())
            self.check(PROGRAM, asides, oracle.at((2, 0)), oracle.at((2, 1, 0)))
            self.check(PROGRAM, asides, oracle.at((2, 1, 0)), oracle.at((2, 0)))

    def test_a_behind_of_others_that_fault(self):
        program = ((), ((0, (("ask", 0), TELL)), (0, (CALL,)), (0, (("try", (CALL,), (2,), 0, ()), ("call", 0, 1, ())))))
        asides = (aside(1, "behind", (("ask", None),), BELOW),)
        # With the fault the bodies end, or the aside is opened; one choice is enough for either.
        self.check(program, asides, function(0, 0), function(0, 1), (2, 5, 1))

    def test_two_hundred_choices(self):
        # So many functions or rows that ahead and further have just 200 choices in all.
        for many in (98, 99):
            rows = (("set", 0, QUOTIENT),) * many + (TELL,)
            program = ((), ((0, rows), (0, (CALL,)), (0, (("set", 0, QUOTIENT),) * 2 + (("if", SLOT, (CALL,), (("call", 0, 1, ()),)),))))
            asides = (aside(1, "before", TELLS, BELOW),)
            # Ahead: the main body, two rows, the if, then one body or two.
            ahead, mate = (0, 0, 0, 1, 0), (0, 0, 0, 0, 0, 0)
            for further in (194, 195):
                value = (ahead, mate, (0,) * further)
                self.assertIs(parting_holds(program, asides, function(0, 0), function(0, 1), value), further == 194)
            value = (ahead, ahead, (0,) * 98)
            self.assertIs(parting_holds(program, asides, function(0, 0), function(0, 1), value), False)
            self.check(program, asides, function(0, 0), function(0, 1), (5, 6, many))

    def test_just_two_hundred_are_found(self):
        def counting(depth, many):
            """Function 0 has so many rows with a choose ahead of its tell, function 1 ahead of its call of 0."""
            rows = (("set", 0, SUM),)
            return ((), ((0, rows * many + (TELL,)), (0, rows * depth + (CALL,)), (0, (CALL, ("call", 0, 1, ())))))

        asides = (aside(1, "before", TELLS, BELOW),)
        # mate: the main body, that of 0 and its rows, that of 1 and its rows, that of 0 again; then its rows once more.
        for depth, many in ((34, 81), (32, 82), (33, 81)):
            told = parting(counting(depth, many), asides, function(0, 0), function(0, 1))
            self.assertEqual([len(choices) for choices in told], [2, 4 + many + depth, many])
            self.assertLessEqual(4 + many + depth + many, 200)
            self.assertIs(parting_holds(counting(depth, many), asides, function(0, 0), function(0, 1), told), True)

    def test_made(self):
        parted = 0
        for seed in range(200):
            program, asides, _ = made(seed)
            told = classes(program, asides, ())
            lot = {node: at for at, members in enumerate(told) for node in members}
            source = random.Random(seed)
            pairs = [pair for pair in itertools.product(lot, lot) if pair[0][0] == pair[1][0]]
            for node, other in source.sample(pairs, min(4, len(pairs))):
                if lot[node] == lot[other]:
                    self.refuse(program, asides, node, other)
                else:
                    parted += 1
                    self.check(program, asides, node, other)
        self.assertGreater(parted, 30)

    def test_alike_nodes_have_the_same_notes(self):
        for seed in range(50):
            program, asides, _ = made(seed)
            source = random.Random(seed)
            first = {}
            lot = {node: at for at, members in enumerate(classes(program, asides, ())) for node in members}
            for _ in range(40):
                choices = tuple(source.choice((0, 0, 0, 1, 1, 2)) for _ in range(source.randint(1, 12)))
                node = node_of(program, asides, choices)
                if node is None:
                    continue
                self.assertIn(node, lot)
                mate = first.setdefault(lot[node], choices)
                further = tuple(source.choice((0, 0, 1, 2)) for _ in range(20))
                self.assertEqual(notes_behind(program, asides, choices, further), notes_behind(program, asides, mate, further))


class PartingHolds(unittest.TestCase):
    ASIDES = (aside(5, "before", TELLS, BELOW, SLOT),)
    ZERO, UNDER = function(0, 0), function(0, 1)

    def holds(self, value, wanted, node=ZERO, other=UNDER):
        with self.subTest(value=repr(value)[:200]):
            self.assertIs(parting_holds(PROGRAM, self.ASIDES, node, other, value), wanted)

    def test_what_holds(self):
        ahead, mate = (0, 0), (0, 0, 0, 0)
        for further in ((), (0,), (1,), (1, 0), (0, 0, 0), (9, 9, 9)):
            self.holds((ahead, mate, further), True)
            self.holds((mate, ahead, further), True, self.UNDER, self.ZERO)
        self.holds(((2, 4), (8, 6, 0, 2), ()), True)

    def test_other_choices_ahead(self):
        ahead, mate = (0, 0), (0, 0, 0, 0)
        for wrong in ((), (0,), (1,), (0, 1), (0, 0, 0), (0, 0, 0, 0), (0, 0, 1), (0, 0, 0, 0, 0), (1, 0), (0, 0, 0, 0, 1, 0)):
            if wrong != mate:
                self.holds((ahead, wrong, ()), False)
            self.holds((wrong, mate, ()), False)
        self.holds((mate, ahead, ()), False)
        self.holds((ahead, ahead, ()), False)
        self.holds((mate, mate, ()), False)

    def test_the_last_choice_has_to_open_the_body(self):
        # What is opened by the choices ahead of the last one, or not at all, is not enough.
        self.holds(((0, 0), (0, 0, 0, 0, 1), ()), False)
        self.holds(((0, 0), (0, 0, 0, 1), ()), False)
        self.holds(((0, 0, 5), (0, 0, 0, 0), ()), False)

    def test_notes_that_are_the_same(self):
        quiet = (aside(5, "before", (("get", 0),), BELOW, SLOT),)
        program = ((4,), ((0, (("ask", 0), ("get", 0, 0))), (0, (CALL,)), (0, (("try", (CALL,), (2,), 0, ()), ("call", 0, 1, ())))))
        ahead, mate = (0, 0), (0, 0, 1, 0, 0)
        for further, wanted in (((), False), ((1,), False), ((0,), True), ((0, 0), True), ((1, 0), False), ((2,), True)):
            self.assertIs(parting_holds(program, quiet, self.ZERO, self.UNDER, (ahead, mate, further)), wanted)

    def test_notes_up_to_the_end_of_the_body_alone(self):
        # Both bodies only end; behind them the runs are unlike.
        program = ((), ((0, (("if", SLOT, (TELL,), ()),)), (0, (CALL,)), (0, (CALL, ("call", 0, 1, ())))))
        asides = (aside(5, "before", TELLS, BELOW),)
        self.assertIs(parting_holds(program, asides, self.ZERO, self.UNDER, ((0, 0), (0, 0, 0, 0, 0), (0, 0))), False)
        self.assertIs(parting_holds(program, asides, self.ZERO, self.UNDER, ((0, 0), (0, 0, 0, 0, 0), (1, 0))), True)

    def test_values_that_are_no_triple_of_choices(self):
        ahead, mate = (0, 0), (0, 0, 0, 0)
        for value in NO_TUPLES + (
            (), (ahead, mate), (ahead, mate, (), ()), [ahead, mate, ()], ([0, 0], mate, ()), (ahead, list(mate), ()), (ahead, mate, []),
            (ahead, mate, None), (ahead, mate, 0), (ahead, mate, "0"), (ahead, mate, (10,)), (ahead, mate, (-1,)), (ahead, mate, (True,)),
            ((0, False), mate, ()), (ahead, (0, 0, 0, None), ()), (ahead, (0, 0, 0, "0"), ()), ((0, (0,)), mate, ()), ((0, 10), mate, ()),
            (ahead, mate, {}), (ahead, mate, ((),)), (10 ** 30, mate, ()),
        ):
            self.holds(value, False)

    def test_how_many_choices(self):
        ahead, mate = (0, 0), (0, 0, 0, 0)
        self.holds((ahead, mate, (1,) * 196), True)
        self.holds((ahead, mate, (1,) * 197), False)
        self.holds((mate, ahead, (1,) * 196), True, self.UNDER, self.ZERO)
        self.holds((mate, ahead, (1,) * 197), False, self.UNDER, self.ZERO)
        self.holds((ahead, mate, (1,) * 4000), False)

    def test_states_and_nodes(self):
        window = ("row", (EVERY, ("letters", (0,))) + (("any",),) * 6)
        asides = (aside(5, "before", TELLS, window),)
        for call, handed in (
            (classes, ((),)), (classes_hold, ((), None)), (parting, (None, None)), (parting_holds, (None, None, None)),
        ):
            with self.assertRaises(TooMany) as raised:
                call(PROGRAM, asides, *handed)
            self.assertEqual(raised.exception.limit, 64)
        many = tuple(aside(at, "before", (("ask", None),), ("star", ("row", (("any",),) * length))) for at, length in enumerate((14, 13, 11)))
        program = ((), ((0, (CALL,)),))
        for call, handed in (
            (classes, ((),)), (classes_hold, ((), ())), (parting, (None, None)), (parting_holds, (None, None, ())),
        ):
            with self.assertRaises(TooMany) as raised:
                call(program, many, *handed)
            self.assertEqual(raised.exception.limit, 2000)


class Calls(unittest.TestCase):
    def test_the_same_again_and_nothing_changed(self):
        for seed in range(30):
            handed = made(seed)
            program, asides, begins = handed
            kept, before = copy.deepcopy(handed), repr(handed)
            told = classes(*handed)
            self.assertEqual(classes(*kept), told)
            self.assertEqual(classes(begins=begins, asides=asides, program=program), told)
            self.assertIs(classes_hold(value=told, begins=begins, asides=asides, program=program), True)
            self.assertEqual(repr(handed), before)
        asides = PartingHolds.ASIDES
        told = parting(PROGRAM, asides, function(0, 0), function(0, 1))
        self.assertEqual(parting(other=function(0, 1), node=function(0, 0), asides=asides, program=PROGRAM), told)
        self.assertEqual(parting(PROGRAM, asides, function(0, 0), function(0, 1)), told)
        self.assertIs(parting_holds(value=told, other=function(0, 1), node=function(0, 0), asides=asides, program=PROGRAM), True)


def notes_behind(program, asides, choices, further):
    """The notes of the body opened by the last of the choices, up to its end, in the free run with further ones."""
    return Marking(program, asides, choices, further).marked()


def node_of(program, asides, choices):
    """The node of the body opened by the last of the choices, None if none is."""
    return Marking(program, asides, choices, ()).node


if __name__ == "__main__":
    unittest.main()
