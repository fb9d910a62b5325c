"""What nodes, ends, runnable, chains and all_chains tell: [E1] to [E6]."""

import copy
import random
import unittest

from asidewoven.errors import AsideError, NoNode, TooMany
from asidewoven.nodes import (
    all_chains, chains, dead, ends, meeting, nodes, ringing, runnable, way_holds, way_to,
)
from asidewoven.programs import asides_error, program_error
from making import LIVELY, Making
from node_oracle import NodeOracle
from samples import ONE, REST, program_of, with_item

EVERY = ("star", ("any",))
CALL = ("call", 0, 0, ())
TELL = ("tell", ONE)
TELLS = (("tell", None),)
SUM, QUOTIENT = ("plus", ONE, ONE), ("part", ONE, ONE)
SLOT = ("v", 0)


def aside(name, form, moments, part=EVERY, test=ONE, rows=()):
    return (name, form, moments, part, test, tuple(rows))


def function(f, *states):
    return (f, states, None, ())


def made(seed):
    """A program with asides and begins, out of a seed."""
    source = random.Random(seed)
    making = Making(source, source.choice((0, 1, 2)), source.choice(((0, 0), (1, 0), (2, 1, 0), (0,) * 4)), LIVELY)
    program = making.program(seed % 3)
    asides = making.asides(program, source.randint(0, 4), seed % 4 > 0)
    main = len(program[1]) - 1
    begins = tuple(
        (main,) + tuple(source.randrange(main + 1) for _ in range(source.randint(0, 3)))
        for _ in range(source.choice((0, 0, 1, 2)))
    )
    return program, asides, begins


class Telling(unittest.TestCase):
    def main_ends(self, rows, *wanted, asides=(), ahead=(), begins=()):
        """What ends tells of the main function with these rows: answered, ended, kinds."""
        program = ((0, 0), tuple(ahead) + ((0, tuple(rows)),))
        with self.subTest(rows=rows, asides=asides, ahead=ahead):
            self.assertIsNone(program_error(program))
            self.assertIsNone(asides_error(program, asides))
            told = [row for row in ends(program, asides, begins) if row[0][0] == len(ahead)]
            self.assertEqual(repr([row[1:] for row in told]), repr([wanted]))

    def runs(self, rows, *places, asides=(), ahead=(), begins=()):
        """Which rows of the main function are runnable."""
        program = ((0, 0), tuple(ahead) + ((0, tuple(rows)),))
        main = NodeOracle(program, asides, ()).at((len(ahead),))
        with self.subTest(rows=rows, asides=asides, ahead=ahead):
            self.assertEqual(repr(runnable(program, asides, begins, main)), repr(places))


class EndsOfRows(Telling):
    """Rows by themselves: which of them are runnable, and what can come of the body."""

    def test_no_rows_and_plain_ones(self):
        self.main_ends((), False, True, ())
        self.main_ends((REST, ("set", 0, SLOT)), False, True, ())
        self.runs((REST, ("set", 0, SLOT)), (0,), (1,))
        self.runs(())

    def test_answer_and_fault(self):
        self.main_ends((("answer", ONE), REST), True, False, ())
        self.runs((("answer", ONE), REST), (0,))
        for kind in range(10):
            self.main_ends((("fault", kind), REST), False, False, (kind,))
        self.runs((REST, ("fault", 1), REST, REST), (0,), (1,))

    def test_kinds_of_expressions(self):
        deep = ("below", ("same", ONE, QUOTIENT), ("times", ONE, ONE))
        for expression, kinds in (
            (SUM, (0,)), (("less", ONE, ONE), (0,)), (("times", ONE, ONE), (0,)), (QUOTIENT, (1,)), (("below", ONE, ONE), ()),
            (("same", ONE, SLOT), ()), (deep, (0, 1)), (("part", SUM, ONE), (0, 1)), (("below", ONE, SUM), (0,)), (ONE, ()), (SLOT, ()),
        ):
            self.main_ends((("set", 0, expression),), False, True, kinds)
            self.main_ends((("answer", expression),), True, False, kinds)
            self.main_ends((("tell", expression),), False, True, kinds)
            self.main_ends((("put", 0, expression),), False, True, kinds)
            self.main_ends((("if", expression, (), ()),), False, True, kinds)
            self.main_ends((("call", 0, 0, (ONE, expression)),), False, True, tuple(sorted((3,) + kinds)), ahead=((2, ()),))

    def test_kinds_of_moments(self):
        self.main_ends((("get", 0, 1),), False, True, ())
        self.main_ends((("ask", 0),), False, True, (2,))
        self.main_ends((CALL,), False, True, (3,), ahead=((0, ()),))
        self.main_ends((CALL,), False, True, (3,), ahead=((0, (("answer", ONE),)),))
        self.main_ends((CALL, REST), False, False, (3, 7), ahead=((0, (("fault", 7),)),))
        self.main_ends((CALL, REST), False, True, (2, 3), ahead=((0, (("ask", 1),)),))
        self.runs((CALL, REST), (0,), ahead=((0, (("fault", 7),)),))

    def test_if_by_its_expression(self):
        first, second = ("answer", ONE), ("fault", 4)
        for expression, told, places in (
            (("n", 0), (False, False, (4,)), ((0,), (0, 1, 0))), (ONE, (True, False, ()), ((0,), (0, 0, 0))),
            (("n", -7), (True, False, ()), ((0,), (0, 0, 0))), (SLOT, (True, False, (4,)), ((0,), (0, 0, 0), (0, 1, 0))),
            (("same", ONE, ONE), (True, False, (4,)), ((0,), (0, 0, 0), (0, 1, 0))),
        ):
            rows = (("if", expression, (first,), (second,)), REST)
            self.main_ends(rows, *told)
            self.runs(rows, *places)

    def test_if_goes_on_as_its_rows_do(self):
        stop = ("fault", 4)
        for expression, first, second, on in (
            (SLOT, (), (stop,), True), (SLOT, (stop,), (REST,), True), (SLOT, (stop,), (stop,), False), (ONE, (stop,), (), False),
            (("n", 0), (), (stop,), False), (("n", 0), (stop,), (), True), (ONE, (REST,), (stop,), True),
        ):
            rows = (("if", expression, first, second), ("answer", ONE))
            program = ((), ((0, rows),))
            self.assertEqual((1,) in runnable(program, (), (), function(0)), on)
            self.assertEqual(ends(program, (), ())[0][1], on)

    def test_try(self):
        for kinds, told, places in (
            ((4,), (False, True, ()), ((0,), (0, 0, 0), (0, 1, 0))),
            ((1, 4, 9), (False, True, ()), ((0,), (0, 0, 0), (0, 1, 0))),
            ((), (False, False, (4,)), ((0,), (0, 0, 0))), ((3, 5), (False, False, (4,)), ((0,), (0, 0, 0))),
        ):
            rows = (("try", (("fault", 4),), kinds, 0, (REST,)),)
            self.main_ends(rows, *told)
            self.runs(rows, *places)

    def test_try_of_several_kinds(self):
        rows = (("set", 0, ("part", SUM, ONE)), ("ask", 1), CALL)
        for kinds, left in (
            ((), (0, 1, 2, 3)), ((0,), (1, 2, 3)), ((1, 3), (0, 2)), ((0, 1, 2, 3), ()), ((4, 5), (0, 1, 2, 3)), ((2, 9), (0, 1, 3)),
        ):
            self.main_ends((("try", rows, kinds, 0, ()),), False, True, left, ahead=((0, ()),))
            self.main_ends((("try", rows, kinds, 0, (("fault", 8),)),), False, True, left + ((8,) if set(kinds) & {0, 1, 2, 3} else ()),
                           ahead=((0, ()),))

    def test_last_rows_of_a_try_are_not_within_it(self):
        self.main_ends((("try", (("fault", 4),), (4,), 0, (("fault", 4),)),), False, False, (4,))
        inner = ("try", (("fault", 4),), (4,), 0, (("fault", 5),))
        self.main_ends((("try", (inner, REST), (5,), 0, (("answer", ONE),)),), True, False, ())
        self.runs((("try", (inner, REST), (5,), 0, (("answer", ONE),)),), (0,), (0, 0, 0), (0, 0, 0, 0, 0), (0, 0, 0, 1, 0), (0, 1, 0))

    def test_a_try_goes_on_as_its_rows_do(self):
        self.runs((("try", (REST,), (4,), 0, (("fault", 1),)), REST), (0,), (0, 0, 0), (1,))
        self.runs((("try", (("answer", ONE),), (4,), 0, ()), REST), (0,), (0, 0, 0))
        self.runs((("try", (("fault", 4), REST), (4,), 0, (("fault", 1),)), REST), (0,), (0, 0, 0), (0, 1, 0))
        self.runs((("try", (("ask", 0), ("answer", ONE)), (2,), 0, ()), REST), (0,), (0, 0, 0), (0, 0, 1), (1,))

    def test_functions_that_call_themselves(self):
        self.main_ends((CALL, REST), False, False, (3,))
        self.main_ends((("if", SLOT, (CALL,), ()), REST), False, True, (3,))
        self.main_ends((("if", SLOT, (CALL, ("fault", 6)), (("fault", 5),)), REST), False, False, (3, 5))
        self.main_ends((("try", (CALL,), (3,), 0, (("answer", ONE),)), REST), True, True, ())
        # Two functions that call one another, and come back from neither.
        pair = ((0, (("call", 0, 1, ()), ("fault", 1))), (0, (CALL, ("fault", 2))))
        self.main_ends((CALL,), False, False, (3,), ahead=pair)
        pair = ((0, (("try", (("call", 0, 1, ()),), (3,), 0, ()), ("fault", 1))), (0, (CALL, ("fault", 2))))
        self.main_ends((CALL,), False, False, (1, 3), ahead=pair)


class Asides(Telling):
    """What a row tells of the asides that fit there."""

    PROGRAM = ((), ((0, (TELL, ("answer", SLOT))),))

    # Each aside is at tells of the main function alone.
    def one(self, name, form, rows=(), test=ONE):
        return aside(name, form, TELLS, ("letters", (0,)), test, rows)

    def check_one(self, form, rows, test, deed, runs, kinds):
        program = self.PROGRAM
        asides = (self.one(4, form, rows, test),)
        with self.subTest(form=form, rows=rows, test=test):
            main = NodeOracle(program, asides, ()).at((0,))
            told = chains(program, asides, (), main)[0]
            behind = NodeOracle(program, asides, ()).then(main[1], -5)
            node = (-5, behind, ("tell", None), ()) if form == "around" else (-5, behind, None, ())
            self.assertEqual(repr(told[1]), repr(() if test == ("n", 0) else ((0, node),)))
            self.assertEqual(told[2], ("tell", None, None) if deed else None)
            self.assertEqual(runnable(program, asides, (), main), ((0,), (1,)) if runs else ((0,),))
            self.assertEqual(ends(program, asides, ())[-1], (main, runs, False, kinds))

    def test_each_form_by_what_its_body_does(self):
        answers, faults, stops = (("answer", ONE),), (("fault", 6),), (("fault", 6),)
        for test in (ONE, ("n", -3)):
            self.check_one("before", (), test, True, True, (3,))
            self.check_one("before", answers, test, True, True, (3,))
            self.check_one("before", faults, test, False, False, (3, 6))
            self.check_one("behind", (), test, True, True, (3,))
            self.check_one("behind", answers, test, True, True, (3,))
            self.check_one("behind", faults, test, True, False, (3, 6))
            self.check_one("around", (), test, False, True, (3,))
            self.check_one("around", answers, test, False, True, (3,))
            self.check_one("around", stops, test, False, False, (3, 6))
        for form in ("before", "behind", "around"):
            for rows in ((), answers, faults):
                self.check_one(form, rows, ("n", 0), True, True, ())
                kinds = (3, 6) if rows == faults else (3,)
                self.check_one(form, rows, SLOT, True, True, kinds)
                self.check_one(form, rows, QUOTIENT, True, True, kinds)

    def test_a_behind_that_only_answers_drops_the_others(self):
        ask = ((), ((0, (("ask", 0), REST)),))
        for rows, test, kinds in (
            ((("answer", ONE),), ONE, (3,)), ((), ONE, (2, 3)), ((("answer", ONE),), SLOT, (2, 3)), ((("fault", 6),), ONE, (3, 6)),
            ((("if", SLOT, (("answer", ONE),), ()),), ONE, (2, 3)), ((("fault", 6),), SLOT, (2, 3, 6)),
        ):
            asides = (aside(4, "behind", (("ask", None),), EVERY, test, rows),)
            self.assertEqual(ends(ask, asides, ())[-1][3], kinds)
            self.assertEqual(chains(ask, asides, (), function(0, 0))[0][2], ("ask", None, None))

    def test_a_behind_of_others_that_never_answer(self):
        call = ((), ((0, (("fault", 7),)), (0, (CALL, TELL))))
        for rows, runs, kinds in (((), False, (3, 7)), ((("answer", ONE),), True, (3,)), ((("fault", 8),), False, (3, 8))):
            asides = (aside(4, "behind", (("call", 0),), EVERY, ONE, rows),)
            self.assertEqual(runnable(call, asides, (), function(1, 0)), ((0,), (1,)) if runs else ((0,),))
            self.assertEqual(ends(call, asides, ())[-1][3], kinds)

    def test_several_asides(self):
        stop, go = self.one(1, "before", (("fault", 6),)), self.one(2, "before")
        over, round_ = self.one(3, "before", (), ("n", 0)), self.one(4, "around", (("answer", ONE),))
        behind, maybe = self.one(5, "behind"), self.one(6, "around", (("fault", 8),), SLOT)
        tell = ("tell", None, None)
        for asides, links, deed, runs, kinds in (
            ((go, stop), [0, 1], None, False, (3, 6)), ((stop, go), [0], None, False, (3, 6)), ((over, go), [1], tell, True, (3,)),
            ((round_, go, stop), [0], None, True, (3,)), ((go, round_, stop), [0, 1], None, True, (3,)),
            ((behind, stop), [0, 1], None, False, (3, 6)), ((behind, over, go), [0, 2], tell, True, (3,)),
            ((maybe, go), [0, 1], tell, True, (3, 8)), ((maybe, stop), [0, 1], None, False, (3, 6, 8)),
            ((go, behind, maybe), [0, 1, 2], tell, True, (3, 8)),
        ):
            self.check_links(asides, links, deed, runs, kinds)

    def check_links(self, asides, links, deed, runs, kinds):
        main = NodeOracle(self.PROGRAM, asides, ()).at((0,))
        told = chains(self.PROGRAM, asides, (), main)[0]
        with self.subTest(asides=[one[:2] for one in asides]):
            self.assertEqual(([place for place, _ in told[1]], told[2]), (links, deed))
            self.assertEqual(runnable(self.PROGRAM, asides, (), main), ((0,), (1,)) if runs else ((0,),))
            self.assertEqual(ends(self.PROGRAM, asides, ())[-1][3], kinds)

    def test_around_asides_within_one_another(self):
        top = ("letters", (0,))
        asides = tuple(aside(name, "around", TELLS, top, ONE, (("on", 0, ()),)) for name in (1, 2, 3))
        oracle = NodeOracle(self.PROGRAM, asides, ())
        states = oracle.then(oracle.at((0,))[1], -2)
        first, second, third = ((-2 - at, states, ("tell", None), tuple(range(at + 1, 3))) for at in range(3))
        self.assertEqual(nodes(self.PROGRAM, asides, ()), (third, second, first, oracle.at((0,))))
        self.assertEqual(chains(self.PROGRAM, asides, (), oracle.at((0,))), (((0,), ((0, first),), None),))
        self.assertEqual(chains(self.PROGRAM, asides, (), first), (((0,), ((1, second),), None),))
        self.assertEqual(chains(self.PROGRAM, asides, (), third), (((0,), (), ("tell", None, None)),))

    def test_ons_of_moments_of_each_kind(self):
        rows = (("get", 0, 1), ("put", 0, ONE), ("call", 0, 0, ()), TELL, ("ask", 0))
        program = ((4, 5), ((0, ()), (0, rows)))
        for kind, number in (("get", 1), ("put", 0), ("call", 0), ("tell", None), ("ask", None)):
            for further in {number, None}:
                asides = (aside(0, "around", ((kind, further),), EVERY, ONE, (("on", 3, ()),)),)
                node = (-1, (0,), (kind, number), ())
                self.assertIn(node, nodes(program, asides, ()))
                deed = (kind, number, function(0, 0) if kind == "call" else None)
                self.assertEqual(chains(program, asides, (), node), (((0,), (), deed),))
                self.assertEqual(ends(program, asides, ())[0][3], {"ask": (2,), "call": (3,)}.get(kind, ()))

    def test_moments_with_and_without_a_number(self):
        program = ((4, 5), ((0, (("get", 0, 0), ("get", 0, 1), ("put", 1, ONE))),))
        for moments, fits in (
            ((("get", 0),), (0,)), ((("get", None),), (0, 1)), ((("get", 1), ("put", 1)), (1, 2)), ((("put", 0),), ()), ((("put", None),), (2,)),
        ):
            told = chains(program, (aside(0, "before", moments),), (), function(0, 0))
            self.assertEqual(tuple(place[0] for place, links, _ in told if links), fits)

    def test_by_the_states(self):
        # The aside is run at tells of functions that 1 is below.
        program = ((), ((0, (TELL,)), (0, (CALL, TELL)), (0, (CALL, ("call", 0, 1, ()), TELL))))
        part = ("row", (EVERY, ("letters", (1,)), ("any",), EVERY))
        asides = (aside(0, "before", TELLS, part),)
        self.assertEqual(nodes(program, asides, ()), (
            (-1, (2,), None, ()), function(0, 0), function(0, 2), function(1, 1), function(2, 0)))
        told = dict(all_chains(program, asides, ()))
        self.assertEqual([bool(told[function(*at)][-1][1]) for at in ((0, 0), (0, 2), (1, 1), (2, 0))], [False, True, False, False])

    def test_an_aside_that_sets_itself_off(self):
        asides = (aside(0, "before", TELLS, EVERY, ONE, (TELL,)),)
        self.assertEqual(ends(self.PROGRAM, asides, ()), (((-1, (0,), None, ()), False, False, (3,)), (function(0, 0), False, False, (3,))))
        asides = (aside(0, "before", TELLS, EVERY, SLOT, (TELL,)),)
        self.assertEqual(ends(self.PROGRAM, asides, ()), (((-1, (0,), None, ()), False, True, (3,)), (function(0, 0), True, False, (3,))))


class Begins(Telling):
    PROGRAM = ((), ((0, (("fault", 5), TELL)), (0, (("if", ONE, (CALL,), (TELL,)), ("answer", ONE))), (0, (("call", 0, 1, ()), REST))))

    def test_none(self):
        self.assertEqual(ends(self.PROGRAM, (), ()), (
            (function(0), False, False, (5,)), (function(1), False, False, (3, 5)), (function(2), False, False, (3, 5))))

    def test_the_main_ones_own(self):
        self.assertEqual(ends(self.PROGRAM, (), ((2,),))[2], (function(2), False, True, (3, 5)))
        self.assertEqual(runnable(self.PROGRAM, (), ((2,),), function(2)), ((0,), (1,)))
        self.assertEqual(runnable(self.PROGRAM, (), ((2,),), function(1)), ((0,), (0, 0, 0)))

    def test_several_and_one_more_than_once(self):
        # The function 0 is open: it can end, too, so that the call in 1 goes on, and that in 2.
        wanted = ((False, True, (5,)), (True, False, (3, 5)), (False, True, (3, 5)))
        for begins in (((2, 1, 0),), ((2, 1, 0), (2, 1, 0)), ((2, 0), (2, 1, 0), (2, 0, 1, 0))):
            self.assertEqual(tuple(row[1:] for row in ends(self.PROGRAM, (), begins)), wanted)
            self.assertEqual(runnable(self.PROGRAM, (), begins, function(0)), ((0,), (1,)))
            self.assertEqual(runnable(self.PROGRAM, (), begins, function(1)), ((0,), (0, 0, 0), (1,)))

    def test_open_rows_within_rows(self):
        rows = (("answer", ONE), ("if", ("n", 0), (("answer", ONE), REST), (("fault", 1),)), ("try", (("answer", ONE), REST), (), 0, (("fault", 2), REST)))
        program = ((), ((0, rows),))
        self.assertEqual(runnable(program, (), (), function(0)), ((0,),))
        self.assertEqual(runnable(program, (), ((0,),), function(0)), (
            (0,), (1,), (1, 0, 0), (1, 0, 1), (1, 1, 0), (2,), (2, 0, 0), (2, 0, 1), (2, 1, 0), (2, 1, 1)))
        self.assertEqual(ends(program, (), ((0,),)), ((function(0), True, True, (1, 2)),))

    def test_an_open_node_ends_as_its_last_row_goes_on(self):
        for rows, ended in (
            ((), True), ((("fault", 1), REST), True), ((REST, ("fault", 1)), False), ((("if", ONE, (("fault", 1),), (REST,)),), True),
            ((("if", ONE, (("fault", 1),), (REST, ("fault", 1))),), False), ((("try", (("fault", 1),), (), 0, ()),), True),
            ((("try", (("fault", 1),), (), 0, (("fault", 2),)),), False), ((("if", SLOT, (("fault", 1), REST), (("fault", 1),)),), True),
        ):
            program = ((), ((0, rows),))
            self.assertEqual(ends(program, (), ((0,),))[0][2], ended)

    def test_an_open_try_takes_its_kinds(self):
        program = ((), ((0, (("try", (("fault", 1), ("fault", 2)), (2,), 0, (("fault", 3),)),)),))
        self.assertEqual(ends(program, (), ((0,),))[0][3], (1, 3))
        self.assertEqual(ends(program, (), ())[0][3], (1,))

    def test_by_the_states_of_the_pile(self):
        asides = (aside(0, "before", TELLS, ("row", (("letters", (2,)), ("letters", (0,))))),)
        self.assertEqual(nodes(self.PROGRAM, asides, ()), (function(0, 1), function(1, 1), function(2, 2)))
        self.assertEqual(nodes(self.PROGRAM, asides, ((2, 0),)), (
            (-1, (1,), None, ()), function(0, 1), function(0, 3), function(1, 1), function(2, 2)))
        self.assertEqual(runnable(self.PROGRAM, asides, ((2, 0),), function(0, 1)), ((0,),))
        self.assertEqual(runnable(self.PROGRAM, asides, ((2, 0),), function(0, 3)), ((0,), (1,)))
        self.assertEqual(nodes(self.PROGRAM, asides, ((2, 0), (2, 0, 1, 2), (2, 0))), nodes(self.PROGRAM, asides, ((2, 0, 1, 2), (2, 0))))

    def test_piles_of_sixty(self):
        asides = (aside(0, "before", TELLS, ("star", ("row", (("any",),) * 7))),)
        self.assertIn(function(0, 60 - 56), nodes(self.PROGRAM, asides, ((2,) + (0,) * 59,)))


class NotComeTo(Telling):
    def test_functions(self):
        program = ((), ((0, (CALL, ("call", 0, 1, ()))), (0, (TELL,)), (0, (("answer", ONE),))))
        self.assertEqual(nodes(program, (), ()), (function(2),))
        self.assertEqual(runnable(program, (), (), function(0)), ((0,),))
        self.assertEqual(chains(program, (), (), function(0)), (((0,), (), ("call", 0, function(0))), ((1,), (), None)))
        self.assertEqual(chains(program, (), (), function(1)), (((0,), (), ("tell", None, None)),))

    def test_states_no_pile_leads_to(self):
        part, other = ("star", ("row", (("any",), ("any",)))), ("not", ("star", ("row", (("any",), ("any",)))))
        program = ((), ((0, (TELL,)),))
        asides = (aside(0, "before", TELLS, part), aside(1, "before", TELLS, other))
        self.assertEqual(chains(program, asides, (), function(0, 0, 1))[0][1], (
            (0, (-1, (1, 0), None, ())), (1, (-2, (1, 0), None, ()))))
        self.assertEqual(chains(program, asides, (), function(0, 1, 0))[0][1], ())

    def test_rests_no_moment_leads_to(self):
        program = ((), ((0, (TELL,)),))
        nowhere = ("letters", (50,))
        asides = tuple(aside(name, "around", TELLS, nowhere, ONE, (("on", 0, ()),)) for name in range(3))
        self.assertEqual(nodes(program, asides, ()), (NodeOracle(program, asides, ()).at((0,)),))
        for rest in ((), (1,), (2,), (1, 2)):
            told = chains(program, asides, (), (-1, (0, 0, 0), ("tell", None), rest))
            self.assertEqual([place for place, _ in told[0][1]], list(rest[:1]))
            self.assertEqual(told[0][2], None if rest else ("tell", None, None))


class NoNodes(unittest.TestCase):
    """Values that are no node by their form."""

    PROGRAM = ((3, 4), ((1, (TELL,)), (0, (("call", 0, 0, (ONE,)), ("get", 0, 1)))))
    ASIDES = (
        aside(5, "before", (("tell", None), ("get", 0)), ("row", (EVERY, ("letters", (0,)))), SLOT),
        aside(2, "around", (("tell", None), ("call", None), ("put", 1), ("ask", None)), EVERY, ONE, (("on", 0, ()),)),
        aside(7, "behind", (("call", 0), ("tell", None))),
        aside(3, "around", (("get", None), ("tell", None)), ("any",), SLOT, (("on", 0, ()),)),
    )

    RIGHT = (
        function(0, 0, 0, 0, 0), function(1, 1, 0, 0, 2), (-6, (1, 0, 0, 1), None, ()), (-8, (0, 0, 0, 0), None, ()),
        (-3, (0, 0, 0, 0), ("tell", None), ()), (-3, (0, 0, 0, 0), ("tell", None), (2,)), (-3, (1, 0, 0, 2), ("tell", None), (2, 3)),
        (-3, (0, 0, 0, 0), ("tell", None), (3,)), (-3, (0, 0, 0, 0), ("call", 0), (2,)), (-3, (0, 0, 0, 0), ("call", 1), ()),
        (-3, (0, 0, 0, 0), ("put", 1), ()), (-3, (0, 0, 0, 0), ("ask", None), ()), (-4, (0, 0, 0, 0), ("get", 0), ()),
        (-4, (0, 0, 0, 0), ("get", 1), ()), (-4, (0, 0, 0, 0), ("tell", None), ()),
    )

    def wrong(self):
        zero = (0, 0, 0, 0)
        yield from (None, True, 0, -6, "", "node", (), [], {}, (0,), (0, zero), (0, zero, None), (0, zero, None, (), ()), [0, zero, None, ()])
        yield from ((letter, zero, None, ()) for letter in (2, -1, -2, -5, -7, 11, 12, -100, 10 ** 30, True, False, None, "0", (0,), [0], {}))
        yield from ((0, states, None, ()) for states in (
            (), (0,), (0, 0, 0), (0,) * 5, [0, 0, 0, 0], None, 0, (2, 0, 0, 0), (0, 1, 0, 0), (0, 0, 0, 3), (-1, 0, 0, 0), (True, 0, 0, 0),
            (False, 0, 0, 0), (None, 0, 0, 0), ("0", 0, 0, 0), ((0,), 0, 0, 0), ([], 0, 0, 0), (10 ** 30, 0, 0, 0)))
        for letter in (0, 1, -6, -8):
            yield from ((letter, zero, moment, ()) for moment in (("tell", None), ("call", 0), (), 0, False, "", [], {}))
            yield from ((letter, zero, None, rest) for rest in ((0,), (2,), (3,), [], None, 0, "", {}, False, ((),)))
        for letter in (-3, -4):
            yield from ((letter, zero, moment, ()) for moment in (
                None, (), ("tell",), ("tell", None, None), ["tell", None], "tell", 0, ("tell", 0), ("ask", 1), ("call", None), ("call", 2),
                ("call", -1), ("call", True), ("call", "0"), ("get", 2), ("get", None), ("get", -1), ("put", 0), ("put", None), ("put", 2),
                ("Tell", None), ("", None), (None, None), (0, None), (["tell"], None), ({}, None), (("tell",), None), ("tell", ()), ("rest", None)))
            yield from ((letter, zero, ("tell", None), rest) for rest in (
                (0,), (1,), (4,), (-1,), (3, 2), (2, 2), (0, 2), (2, 4), (True,), (None,), ("2",), ((2,),), ([2],), [2], [], None, 0, {}, "", (2, 3, 3)))
        yield from ((-3, zero, ("ask", None), (2,)), (-3, zero, ("call", 1), (2,)), (-3, zero, ("call", 0), (3,)), (-4, zero, ("call", 0), ()))
        yield from ((-4, zero, ("put", 1), ()), (-4, zero, ("get", 0), (2,)), (-4, zero, ("ask", None), ()), (-4, zero, ("tell", None), (3,)))
        yield from ((-3, zero, ("get", 0), ()), (-3, zero, ("put", 0), ()), (-3, zero, ("put", 1), (2,)), (-3, zero, ("put", 1), (3,)))

    def test_right_ones(self):
        self.assertIsNone(asides_error(self.PROGRAM, self.ASIDES))
        for node in self.RIGHT:
            oracle = NodeOracle(self.PROGRAM, self.ASIDES, ())
            oracle.begin_with([node])
            with self.subTest(node=node):
                self.assertEqual(repr(runnable(self.PROGRAM, self.ASIDES, (), node)), repr(oracle.runnable[node]))
                self.assertEqual(repr(chains(self.PROGRAM, self.ASIDES, (), node)), repr(oracle.chains(node)))

    def test_wrong_ones(self):
        for value in self.wrong():
            for call in (runnable, chains, way_to):
                with self.subTest(call=call.__name__, value=value):
                    before = repr(value)
                    with self.assertRaises(AsideError) as caught:
                        call(self.PROGRAM, self.ASIDES, (), value)
                    self.assertIs(caught.exception.__class__, NoNode)
                    self.assertEqual(repr(caught.exception.node), before)
                    self.assertEqual(repr(value), before)
            self.assertIs(way_holds(self.PROGRAM, self.ASIDES, (), value, (value,)), False)

    def test_without_asides(self):
        for value in ((0, (0,), None, ()), (-1, (), None, ()), (2, (), None, ()), (-1, (), ("tell", None), ())):
            with self.assertRaises(NoNode):
                runnable(self.PROGRAM, (), (), value)
        self.assertEqual(runnable(self.PROGRAM, (), (), (0, (), None, ())), ((0,),))


class TooManyOf(unittest.TestCase):
    def raised(self, limit, call, *handed):
        with self.subTest(call=call.__name__):
            with self.assertRaises(AsideError) as caught:
                call(*handed)
            self.assertIs(caught.exception.__class__, TooMany)
            self.assertEqual(repr(caught.exception.limit), repr(limit))

    def test_states(self):
        program = ((), ((0, (TELL,)),))
        for many, limit in ((5, None), (6, 64)):
            asides = (aside(1, "before", TELLS, ("row", (EVERY, ("letters", (0,))) + (("any",),) * many)),)
            handed = (program, asides, ())
            if limit is None:
                self.assertEqual(len(nodes(*handed)), 1)
                continue
            for call in (nodes, ends, all_chains):
                self.raised(64, call, *handed)
            for value in (None, function(0, 0), (0, (64,), None, ())):
                for call in (runnable, chains, way_to):
                    self.raised(64, call, *handed, value)
                self.raised(64, way_holds, *handed, value, ())
            self.raised(64, meeting, program, asides, 0, 0)
            self.raised(64, dead, program, asides)
            self.raised(64, ringing, program, asides)

    def counting(self, *lengths):
        """Functions that call one another and come back; one is run in as many states as the asides count to."""
        def caught(f):
            return ("try", (("call", 0, f, ()),), (3,), 0, ())

        program = ((), tuple((0, tuple(caught((f * 3 + at) % 11) for at in range(4)) + (TELL,)) for f in range(11)) + (
            (0, (("answer", ONE), caught(0))), (0, (("if", SLOT, (caught(0),), ()),))))
        program = (program[0], program[1][:11] + program[1][12:])
        asides = tuple(
            aside(name, "before", (("ask", None),), ("star", ("row", (("any",),) * length))) for name, length in enumerate(lengths)
        )
        return program, asides

    def test_nodes(self):
        program, asides = self.counting(13, 11)
        self.assertLess(1500, len(nodes(program, asides, ())))
        program, asides = self.counting(14, 13)
        for call in (nodes, ends, all_chains):
            self.raised(2000, call, program, asides, ())
        for call in (runnable, chains):
            self.raised(2000, call, program, asides, (), function(11, 1, 1))
            with self.assertRaises(NoNode):
                call(program, asides, (), function(11, 14, 0))
        self.raised(2000, way_to, program, asides, (), None)
        self.raised(2000, way_holds, program, asides, (), None, None)
        self.raised(2000, meeting, program, asides, 0, 1)
        self.raised(2000, dead, program, asides)
        self.raised(2000, ringing, program, asides)

    def test_nodes_from_the_one_handed_in(self):
        program, asides = self.counting(14, 13)
        quiet = (program[0], program[1][:11] + ((0, (TELL,)), program[1][11]))
        self.raised(2000, nodes, quiet, asides, ())
        self.assertEqual(runnable(quiet, asides, (), function(11, 1, 1)), ((0,),))
        self.assertEqual(len(chains(quiet, asides, (), function(11, 1, 1))), 1)
        halting = (program[0], program[1][:11] + ((0, (TELL,)),))
        self.assertEqual(nodes(halting, asides, ()), (function(11, 1, 1),))
        self.raised(2000, nodes, halting, asides, ((11, 0),))
        self.assertEqual(runnable(halting, asides, ((11, 0),), function(11, 1, 1)), ((0,),))

    def test_two_thousand_and_one_more(self):
        def called(f):
            return ("call", 0, f, ())

        # 4 * 9 * 5 * 11 = 1980 lots of states: so many nodes has the function 0, which calls itself. The functions 1 to 5
        # have as many as their numbers, as each is called by the main one and by the one ahead of it.
        asides = tuple(aside(name, "before", (("ask", None),), ("star", ("row", (("any",),) * length)))
                       for name, length in enumerate((4, 9, 5, 11)))
        for further, many in ((0, 1996), (3, 1999), (4, 2000), (5, None)):
            functions = [(called(0),)] + [(called(f + 1),) for f in range(1, 5)] + [()] * (1 + further)
            main = tuple(called(f) for f in range(1, len(functions))) + (called(0),)
            program = ((), tuple((0, rows) for rows in functions + [main]))
            self.assertIsNone(program_error(program))
            if many is None:
                self.raised(2000, nodes, program, asides, ())
                self.raised(2000, runnable, program, asides, (), function(len(functions), 1, 1, 1, 1))
            else:
                self.assertEqual(len(nodes(program, asides, ())), many)
                self.assertEqual(len(runnable(program, asides, (), function(len(functions), 1, 1, 1, 1))), len(main))


class Compared(unittest.TestCase):
    def test_what_is_made(self):
        for seed in range(250):
            program, asides, begins = made(seed)
            oracle = NodeOracle(program, asides, begins)
            wanted = tuple(sorted(oracle.found))
            with self.subTest(seed=seed):
                self.assertEqual(repr(nodes(program, asides, begins)), repr(wanted))
                told = tuple((node,) + oracle.found[node][:2] + (tuple(sorted(oracle.found[node][2])),) for node in wanted)
                self.assertEqual(repr(ends(program, asides, begins)), repr(told))
                told = tuple((node, oracle.chains(node)) for node in wanted)
                self.assertEqual(repr(all_chains(program, asides, begins)), repr(told))
                for node in wanted[:3] + wanted[-2:]:
                    self.assertEqual(repr(runnable(program, asides, begins, node)), repr(oracle.runnable[node]))
                    self.assertEqual(repr(chains(program, asides, begins, node)), repr(oracle.chains(node)))

    def test_the_same_again_and_nothing_changed(self):
        for seed in range(12):
            handed = made(seed)
            kept, before = copy.deepcopy(handed), repr(handed)
            node = nodes(*handed)[0]
            for call, further in ((nodes, ()), (ends, ()), (all_chains, ()), (runnable, (node,)), (chains, (node,))):
                told = repr(call(*handed, *further))
                self.assertEqual(repr(call(*handed, *further)), told)
                self.assertEqual(repr(call(*kept, *further)), told)
                named = dict(zip(("program", "asides", "begins", "node"), handed + further))
                self.assertEqual(repr(call(**dict(reversed(list(named.items()))))), told)
            self.assertEqual(repr(handed), before)


if __name__ == "__main__":
    unittest.main()
