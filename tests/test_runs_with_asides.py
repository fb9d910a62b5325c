"""What run, moments and openings tell of asides: [B4] to [B7]."""

import copy
import random
import unittest

from asidewoven.machine import moments, openings, run
from asidewoven.programs import asides_error, program_error
from making import Making
from oracle import Oracle
from samples import ONE, REST, program_of

EVERY = ("star", ("any",))
TELLS = (("tell", None),)
BAD = ("part", ONE, ("n", 0))


def number(n):
    return ("n", n)


def slot(s):
    return ("v", s)


def told(n):
    return ("tell", number(n))


def aside(name, form, rows, moments=TELLS, test=ONE, part=EVERY):
    return (name, form, moments, part, test, tuple(rows))


class Running(unittest.TestCase):
    def check(self, program, asides, wanted, inputs=(), steps=999):
        with self.subTest(program=repr(program)[:200], asides=repr(asides)[:300]):
            self.assertIsNone(program_error(program))
            self.assertIsNone(asides_error(program, asides))
            self.assertEqual(repr(run(program, asides, inputs, steps)), repr(wanted))

    def events(self, program, asides, *wanted, inputs=()):
        """The numbers told, and the end, (word, number), as the last one."""
        events, end, _ = run(program, asides, inputs, 999)
        with self.subTest(program=repr(program)[:200], asides=repr(asides)[:300]):
            self.assertEqual(repr(tuple(n for _, n in events) + (end,)), repr(wanted))


class Moments(Running):
    """Moments of each kind, and which asides fit them."""

    PROGRAM = program_of((
        ("ask", 0), ("get", 1, 1), ("put", 0, number(3)), ("call", 2, 0, (number(4),)), ("tell", number(6)),
    ), ahead=((1, (("answer", slot(0)),)),))
    ROWS = (
        ("ask", None, ()), ("get", 1, ()), ("put", 0, (3,)), ("call", 0, (4,)), ("tell", None, (6,)),
    )

    def test_each_kind(self):
        self.assertEqual(moments(self.PROGRAM, (), (8,), 99), tuple(row + ((1,), ()) for row in self.ROWS))
        for kind, at, _ in self.ROWS:
            for at in (at, None):
                one = aside(5, "before", (), ((kind, at),))
                wanted = tuple(row + ((1,), (0,) if row[0] == kind else ()) for row in self.ROWS)
                self.assertEqual(repr(moments(self.PROGRAM, (one,), (8,), 99)), repr(wanted))

    def test_other_numbers(self):
        for pair in (("get", 0), ("put", 1), ("call", 1)):
            one = aside(5, "before", (), (pair,))
            self.assertEqual([row[4] for row in moments(self.PROGRAM, (one,), (8,), 99)], [()] * 5)

    def test_several_fits(self):
        asides = (
            aside(1, "before", (), (("tell", None), ("get", 1))), aside(0, "behind", (), (("put", None), ("get", None))),
            aside(7, "around", (("on", 0, ()), ("answer", slot(0))), (("get", 1), ("call", 0), ("tell", None))),
        )
        fits = [row[4] for row in moments(self.PROGRAM, asides, (8,), 99)]
        self.assertEqual(fits, [(), (0, 1, 2), (1,), (2,), (0, 2)])

    def test_the_pile_at_a_moment(self):
        inner, outer = (("tell", ONE),), (("call", 0, 0, ()), ("call", 0, 1, ()), ("tell", number(2)))
        program = program_of(inner, (("call", 0, 0, ()),), outer)
        for part, wanted in (
            (("letters", (2,)), (1, 1, 0, 2)), (("row", (EVERY, ("letters", (0,)))), (0, 1, 0, 1, 2)),
            (("row", (("any",), ("letters", (1,)), ("any",))), (1, 0, 1, 2)), (("none",), (1, 1, 2)), (EVERY, (0, 1, 0, 1, 0, 2)),
        ):
            # Not at its own tell, which would set it off again and again.
            part = ("and", (part, ("not", ("row", (EVERY, ("letters", (-4,)))))))
            one = aside(3, "before", (told(0),), TELLS, ONE, part)
            self.events(program, (one,), *wanted, ("answer", 0))

    def test_the_called_letter_is_not_there_yet(self):
        program = program_of((REST,), (("call", 0, 0, ()),))
        top = ("row", (EVERY, ("letters", (0,))))
        self.assertEqual(moments(program, (aside(0, "before", (), (("call", 0),), ONE, top),), (), 9)[0][4], ())
        top = ("letters", (1,))
        self.assertEqual(moments(program, (aside(0, "before", (), (("call", 0),), ONE, top),), (), 9)[0][4], (0,))

    def test_letters_of_asides_on_the_pile(self):
        log = aside(6, "before", (told(9),), (("call", 0),))
        own = aside(2, "before", (), TELLS, ONE, ("row", (("letters", (1,)), ("letters", (-7,)))))
        program = program_of((told(1),), (("call", 0, 0, ()),))
        self.assertEqual(repr(moments(program, (log, own), (), 99)), repr((
            ("call", 0, (), (1,), (0,)), ("tell", None, (9,), (1, -7), (1,)), ("tell", None, (1,), (1, 0), ()),
        )))
        self.assertEqual(openings(program, (log, own), (), 99), ((1,), (1, -7), (1, -7, -3), (1, 0)))


class Before(Running):
    PROGRAM = program_of((("set", 0, number(9)), ("tell", number(4)), ("answer", ("plus", slot(0), slot(1)))))

    def test_opened_ahead_of_the_deed(self):
        one = aside(0, "before", (("put", 0, slot(0)), ("put", 1, slot(1))))
        rows = (("put", 1, number(8)), ("tell", number(4)), ("get", 2, 0), ("get", 3, 1), told(0), ("get", 4, 0), ("answer", ("plus", slot(2), slot(4))))
        self.check(program_of(rows), (one,), ((("tell", 4), ("tell", 0)), ("answer", 4), 11))

    def test_its_answer_is_dropped(self):
        for rows in ((), (("answer", number(7)),), (REST, ("answer", number(7)), ("fault", 1))):
            self.events(self.PROGRAM, (aside(0, "before", rows),), 4, ("answer", 9))

    def test_its_slots_are_its_own(self):
        one = aside(0, "before", (("set", 0, number(77)), ("set", 1, number(5))))
        self.events(self.PROGRAM, (one,), 4, ("answer", 9))

    def test_its_fault_is_the_outcome(self):
        self.events(self.PROGRAM, (aside(0, "before", (("fault", 6),)),), ("fault", 6))
        caught = program_of((("try", (("tell", number(4)),), (6,), 1, (told(8),)), ("answer", slot(1))))
        own = aside(0, "before", (("fault", 6),), TELLS, ("same", slot(0), number(4)))
        self.events(caught, (own,), 8, ("answer", 6))

    def test_a_fault_it_takes_itself(self):
        own = aside(0, "before", (("try", (("fault", 6),), (6,), 0, ()),))
        self.events(self.PROGRAM, (own,), 4, ("answer", 9))

    def test_at_each_kind(self):
        program = program_of((
            ("ask", 0), ("get", 1, 1), ("put", 0, slot(0)), ("call", 2, 0, (slot(1),)), ("get", 3, 0),
            ("answer", ("plus", slot(2), slot(3))),
        ), ahead=((1, (("answer", ("times", slot(0), number(2))),)),))
        for kind, values in (("ask", 0), ("get", 0), ("put", 8), ("call", -5)):
            one = aside(0, "before", (("tell", slot(0)), ("tell", slot(1)), ("set", 0, number(50))), ((kind, None),))
            wanted = (values, 0, ("answer", -2))
            if kind == "get":
                wanted = (0, 0) + wanted
            self.events(program, (one,), *wanted, inputs=(8,))


class Behind(Running):
    def test_slots_of_an_answer(self):
        tells = aside(0, "behind", tuple(("tell", slot(s)) for s in range(8)), (("call", 0),))
        program = program_of((("call", 0, 0, tuple(number(n) for n in range(21, 29))),), ahead=((8, (("answer", number(5)),)),))
        self.events(program, (tells,), 0, 5, 21, 22, 23, 24, 25, 26, ("answer", 0))
        program = program_of((("call", 0, 0, (number(21),)),), ahead=((1, (("answer", number(5)),)),))
        self.events(program, (tells,), 0, 5, 21, 0, 0, 0, 0, 0, ("answer", 0))

    def test_slots_of_a_fault(self):
        tells = aside(0, "behind", tuple(("tell", slot(s)) for s in range(4)), (("call", 0),))
        program = program_of((("call", 0, 0, (number(21),)),), ahead=((1, (("fault", 8),)),))
        self.events(program, (tells,), 1, 8, 21, 0, ("fault", 8))

    def test_slots_at_each_kind(self):
        tells = tuple(("tell", slot(s)) for s in range(4))
        for row, kind, wanted in (
            (("get", 0, 1), "get", (0, -5, 0, 0)), (("put", 1, number(3)), "put", (0, 3, 3, 0)), (("ask", 0), "ask", (0, 6, 0, 0)),
        ):
            self.events(program_of((row,)), (aside(0, "behind", tells, ((kind, None),)),), *wanted, ("answer", 0), inputs=(6,))
        self.events(program_of((("ask", 0),)), (aside(0, "behind", tells, (("ask", None),)),), 1, 2, 0, 0, ("fault", 2))
        # A function that comes to the end of its rows answers 0.
        self.events(program_of((), (("call", 0, 0, ()),)), (aside(0, "behind", tells, (("call", None),)),), 0, 0, 0, 0, ("answer", 0))

    def test_an_answer_is_the_outcome(self):
        program = program_of((("answer", number(5)),), (("call", 1, 0, ()), ("answer", slot(1))))
        calls = (("call", 0),)
        self.events(program, (aside(0, "behind", (("answer", ("plus", slot(1), ONE)),), calls),), ("answer", 6))
        self.events(program, (aside(0, "behind", (REST, ("answer", number(0)), ("fault", 1)), calls),), ("answer", 0))

    def test_the_end_of_its_rows_leaves_the_outcome(self):
        program = program_of((("answer", number(5)),), (("call", 1, 0, ()), ("answer", slot(1))))
        self.events(program, (aside(0, "behind", (("set", 1, number(9)),), (("call", 0),)),), ("answer", 5))
        self.events(program, (aside(0, "behind", (), (("call", 0),)),), ("answer", 5))
        faulty = program_of((("fault", 5),), (("try", (("call", 1, 0, ()),), (5,), 2, ()), ("answer", slot(2))))
        self.events(faulty, (aside(0, "behind", (), (("call", 0),)),), ("answer", 5))

    def test_a_fault_into_an_answer_and_back(self):
        faulty = program_of((("fault", 5),), (("call", 1, 0, ()), ("answer", slot(1))))
        self.events(faulty, (aside(0, "behind", (("answer", slot(1)),), (("call", 0),)),), ("answer", 5))
        right = program_of((("answer", number(5)),), (("call", 1, 0, ()), ("answer", slot(1))))
        self.events(right, (aside(0, "behind", (("fault", 6),), (("call", 0),)),), ("fault", 6))

    def test_opened_behind_the_deed(self):
        one = aside(0, "behind", (("get", 5, 0), ("tell", slot(5))), (("put", 0),))
        self.events(program_of((("put", 0, number(1)), ("put", 0, number(2)))), (one,), 1, 2, ("answer", 0))

    def test_its_pile(self):
        one = aside(3, "behind", (), (("call", 0),))
        program = program_of((("tell", ONE),), (("call", 0, 0, ()),))
        self.assertEqual(openings(program, (one,), (), 99), ((1,), (1, 0), (1, -4)))
        self.assertEqual([row[3] for row in moments(program, (one,), (), 99)], [(1,), (1, 0)])


class Around(Running):
    PROGRAM = program_of(
        (("call", 1, 0, (number(3), number(4))), ("answer", slot(1))),
        ahead=((2, (("tell", slot(0)), ("tell", slot(1)), ("answer", ("plus", slot(0), slot(1))))),),
    )

    def around(self, *rows):
        return (aside(0, "around", rows, (("call", 0),)),)

    def test_without_an_on(self):
        self.events(self.PROGRAM, self.around(), ("answer", 0))
        self.events(self.PROGRAM, self.around(("answer", ("plus", slot(0), ("times", slot(1), number(10))))), ("answer", 43))
        self.events(self.PROGRAM, self.around(("fault", 7)), ("fault", 7))
        self.assertEqual(openings(self.PROGRAM, self.around(), (), 9), ((1,), (1, -1)))

    def test_one_on(self):
        self.events(self.PROGRAM, self.around(("on", 5, ())), 3, 4, ("answer", 0))
        self.events(self.PROGRAM, self.around(("on", 5, ()), ("answer", slot(5))), 3, 4, ("answer", 7))
        self.events(self.PROGRAM, self.around(("on", 0, ()), ("answer", slot(0))), 3, 4, ("answer", 7))

    def test_two_ons(self):
        self.events(self.PROGRAM, self.around(("on", 5, ()), ("on", 6, ()), ("answer", ("times", slot(5), slot(6)))),
                    3, 4, 3, 4, ("answer", 49))

    def test_new_values(self):
        for handed, values in (
            ((), (3, 4)), ((9,), (9, 4)), ((9, 8), (9, 8)), ((9, 8, 7), (9, 8)), ((9,) * 8, (9, 9)),
        ):
            on = ("on", 5, tuple(number(n) for n in handed))
            self.events(self.PROGRAM, self.around(on, ("answer", slot(5))), *values, ("answer", sum(values)))

    def test_the_values_handed_over_stay(self):
        rows = (("set", 0, number(50)), ("set", 1, number(60)), ("on", 5, (("plus", slot(0), ONE),)), ("on", 5, ()))
        self.events(self.PROGRAM, self.around(*rows), 51, 4, 3, 4, ("answer", 0))

    def test_all_expressions_are_reckoned(self):
        for handed in ((BAD,), (ONE, ONE, BAD), (ONE,) * 7 + (BAD,)):
            self.events(self.PROGRAM, self.around(("on", 5, handed)), ("fault", 1))
        self.events(self.PROGRAM, self.around(("try", (("on", 5, (BAD,)),), (1,), 6, (("answer", slot(6)),))), ("answer", 1))

    def test_a_fault_of_the_others_is_that_of_the_row(self):
        faulty = (self.PROGRAM[0], ((2, (("fault", 8),)), self.PROGRAM[1][1]))
        self.events(faulty, self.around(("on", 5, ()), told(1)), ("fault", 8))
        caught = self.around(("try", (("on", 5, ()),), (8,), 6, (("answer", ("plus", slot(6), slot(5))),)))
        self.events(faulty, caught, ("answer", 8))

    def test_values_at_each_kind(self):
        on = (("on", 5, (number(30),)), ("answer", slot(5)))
        self.events(program_of((("get", 0, 1), ("answer", slot(0)))), (aside(0, "around", on, (("get", None),)),), ("answer", -5))
        self.events(program_of((("put", 0, ONE), ("get", 0, 0), ("answer", slot(0)))), (aside(0, "around", on, (("put", None),)),),
                    ("answer", 30))
        self.events(program_of((told(1),)), (aside(0, "around", on),), 30, ("answer", 0))
        self.events(program_of((("ask", 0), ("answer", slot(0)))), (aside(0, "around", on, (("ask", None),)),), ("answer", 6), inputs=(6,))

    def test_an_ask_twice(self):
        on = (("on", 5, ()), ("on", 6, ()), ("answer", ("less", slot(5), slot(6))))
        program = program_of((("ask", 0), ("answer", slot(0))))
        self.events(program, (aside(0, "around", on, (("ask", None),)),), ("answer", 3), inputs=(9, 6))
        self.events(program, (aside(0, "around", on, (("ask", None),)),), ("fault", 2), inputs=(9,))

    def test_its_letter_is_on_the_pile(self):
        one = aside(4, "around", (("on", 0, ()), told(1)), (("call", 0),))
        program = program_of((told(2),), (("call", 0, 0, ()),))
        self.assertEqual(openings(program, (one,), (), 99), ((1,), (1, -5), (1, -5, 0)))
        self.assertEqual([row[3] for row in moments(program, (one,), (), 99)], [(1,), (1, -5, 0), (1, -5)])

    def test_ons_within_rows(self):
        rows = (("if", ONE, (("try", (("on", 5, ()), ("fault", 4)), (4,), 6, (("on", 7, (number(1), number(1))),)),), ()),
                ("answer", ("plus", slot(5), slot(7))))
        self.events(self.PROGRAM, self.around(*rows), 3, 4, 1, 1, ("answer", 9))


class Several(Running):
    """More than one aside at a moment, each telling what it does as a cell or an event."""

    PROGRAM = program_of(
        (("call", 1, 0, (number(2),)), ("answer", slot(1))), ahead=((1, (("tell", slot(0)), ("answer", slot(0)))),),
    )
    CALLS = (("call", 0),)

    def made(self, name, form, *rows, test=ONE):
        return aside(name, form, rows, self.CALLS, test)

    def test_befores_in_order(self):
        one, two = self.made(1, "before", told(11)), self.made(2, "before", told(12))
        self.events(self.PROGRAM, (one, two), 11, 12, 2, ("answer", 2))
        self.events(self.PROGRAM, (two, one), 12, 11, 2, ("answer", 2))

    def test_behinds_inside_out(self):
        one, two = self.made(1, "behind", told(11)), self.made(2, "behind", told(12))
        self.events(self.PROGRAM, (one, two), 2, 12, 11, ("answer", 2))
        self.events(self.PROGRAM, (two, one), 2, 11, 12, ("answer", 2))

    def test_before_and_behind(self):
        before, behind = self.made(1, "before", ("fault", 5)), self.made(2, "behind", ("tell", slot(0)), ("tell", slot(1)), ("tell", slot(2)))
        self.events(self.PROGRAM, (before, behind), ("fault", 5))
        self.events(self.PROGRAM, (behind, before), 1, 5, 2, ("fault", 5))

    def test_behinds_hand_outcomes_on(self):
        add = self.made(1, "behind", ("answer", ("plus", slot(1), number(10))))
        double = self.made(2, "behind", ("answer", ("times", slot(1), number(2))))
        self.events(self.PROGRAM, (add, double), 2, ("answer", 14))
        self.events(self.PROGRAM, (double, add), 2, ("answer", 24))

    def test_arounds_within_arounds(self):
        add = self.made(1, "around", ("on", 5, (("plus", slot(0), number(10)),)), ("answer", ("plus", slot(5), ONE)))
        double = self.made(2, "around", ("on", 5, (("times", slot(0), number(2)),)), ("answer", ("times", slot(5), number(2))))
        self.events(self.PROGRAM, (add, double), 24, ("answer", 49))
        self.events(self.PROGRAM, (double, add), 14, ("answer", 30))
        self.assertEqual(openings(self.PROGRAM, (add, double), (), 99), ((1,), (1, -2), (1, -2, -3), (1, -2, -3, 0)))

    def test_an_on_takes_the_others_each_time(self):
        twice = self.made(1, "around", ("on", 5, ()), ("on", 6, (number(7),)))
        before, behind = self.made(2, "before", ("tell", slot(0))), self.made(3, "behind", ("tell", slot(1)), ("answer", number(50)))
        tells = aside(9, "before", ())
        self.events(self.PROGRAM, (twice, before, behind), 2, 2, 2, 7, 7, 7, ("answer", 0))
        self.events(self.PROGRAM, (before, twice, behind), 2, 2, 2, 7, 7, ("answer", 0))
        self.events(self.PROGRAM, (behind, before, twice, tells), 2, 2, 7, 0, ("answer", 50))

    def test_new_values_for_the_others(self):
        change = self.made(1, "around", ("on", 5, (number(7),)), ("answer", slot(5)))
        before, behind = self.made(2, "before", ("tell", slot(0))), self.made(3, "behind", ("tell", slot(2)))
        self.events(self.PROGRAM, (before, behind, change), 2, 7, 2, ("answer", 7))
        self.events(self.PROGRAM, (change, before, behind), 7, 7, 7, ("answer", 7))

    def test_who_is_not_first_may_not_be_come_to(self):
        stop, before = self.made(1, "around", ("answer", number(8))), self.made(2, "before", told(3))
        self.events(self.PROGRAM, (stop, before), ("answer", 8))
        self.events(self.PROGRAM, (before, stop), 3, ("answer", 8))


class Tests(Running):
    PROGRAM = Several.PROGRAM
    CALLS = (("call", 0),)

    def test_passed_over(self):
        for test in (number(0), BAD, slot(1), ("below", slot(0), number(2)), ("plus", number(10 ** 18), slot(0))):
            for form in ("before", "around"):
                rows = (told(9), ("answer", number(9)))
                self.events(self.PROGRAM, (aside(0, form, rows, self.CALLS, test),), 2, ("answer", 2))
                self.assertEqual(len(openings(self.PROGRAM, (aside(0, form, rows, self.CALLS, test),), (), 99)), 2)

    def test_opened(self):
        for test in (ONE, number(-1), slot(0), ("same", slot(0), number(2)), ("less", slot(0), number(5))):
            self.events(self.PROGRAM, (aside(0, "before", (told(9),), self.CALLS, test),), 9, 2, ("answer", 2))
            self.events(self.PROGRAM, (aside(0, "around", (told(9),), self.CALLS, test),), 9, ("answer", 0))

    def test_a_behind_reckons_by_its_own_slots(self):
        for test, opened in (
            (number(0), False), (slot(0), False), (slot(1), True), (slot(2), True), (slot(3), False), (BAD, False),
            (("same", slot(1), number(4)), False), (("same", slot(2), number(2)), True),
        ):
            wanted = (2, 9, ("answer", 2)) if opened else (2, ("answer", 2))
            self.events(self.PROGRAM, (aside(0, "behind", (told(9),), self.CALLS, test),), *wanted)
        faulty = (self.PROGRAM[0], ((1, (("fault", 4),)), self.PROGRAM[1][1]))
        for test, opened in ((slot(0), True), (("same", slot(1), number(4)), True), (("same", slot(1), number(2)), False)):
            wanted = (9, ("fault", 4)) if opened else (("fault", 4),)
            self.events(faulty, (aside(0, "behind", (told(9),), self.CALLS, test),), *wanted)

    def test_passed_over_among_others(self):
        out = tuple(aside(name, form, (told(9),), self.CALLS, number(0)) for name, form in ((1, "before"), (2, "behind"), (3, "around")))
        inner = aside(5, "before", (told(7),), self.CALLS)
        for place in range(4):
            self.events(self.PROGRAM, out[:place] + (inner,) + out[place:], 7, 2, ("answer", 2))

    def test_a_test_by_new_values(self):
        change = aside(1, "around", (("on", 5, (number(0),)), ("on", 5, (number(3),))), self.CALLS)
        own = aside(2, "before", (told(9),), self.CALLS, slot(0))
        self.events(self.PROGRAM, (change, own), 0, 9, 3, ("answer", 0))

    def test_a_test_is_no_step(self):
        asides = tuple(aside(name, "before", (), self.CALLS, ("v", 7)) for name in range(10))
        self.check(self.PROGRAM, asides, ((("tell", 2),), ("answer", 2), 4))


class Bounds(Running):
    def down(self, many):
        """A program that opens so many bodies, one above the other; the uppermost one tells."""
        again = (("if", slot(0), (("call", 1, 0, (("less", slot(0), ONE),)),), (told(5),)),)
        return program_of((("call", 0, 0, (number(many - 2),)),), ahead=((1, again),))

    def test_asides_at_a_full_pile(self):
        for form, at in (("before", (9, 5)), ("behind", (5, 9)), ("around", (9,))):
            one = aside(0, form, (("try", (told(9),), (3,), 0, ()),), TELLS, ONE, ("not", ("row", (EVERY, ("letters", (-1,))))))
            self.assertEqual(tuple(n for _, n in run(self.down(59), (one,), (), 999)[0]), at)
            self.assertEqual(run(self.down(59), (one,), (), 999)[1], ("answer", 0))
            self.assertEqual(run(self.down(60), (one,), (), 999)[1], ("fault", 3))
            self.assertEqual(run(self.down(60), (one,), (), 999)[0], (("tell", 5),) if form == "behind" else ())
            self.assertEqual(max(len(pile) for pile in openings(self.down(59), (one,), (), 999)), 60)
            self.assertEqual(max(len(pile) for pile in openings(self.down(60), (one,), (), 999)), 60)

    def test_passed_over_at_a_full_pile(self):
        for form in ("before", "behind", "around"):
            one = aside(0, form, (), TELLS, number(0))
            self.assertEqual(run(self.down(60), (one,), (), 999)[:2], ((("tell", 5),), ("answer", 0)))

    def test_deeds_at_a_full_pile(self):
        self.assertEqual(run(self.down(60), (), (), 999)[:2], ((("tell", 5),), ("answer", 0)))
        self.assertEqual(run(self.down(61), (), (), 999)[:2], ((), ("fault", 3)))

    def test_a_behind_of_a_body_not_opened(self):
        one = aside(0, "behind", (("tell", slot(0)), ("tell", slot(1)), ("answer", number(4))), (("call", 0),), slot(0))
        events, end, _ = run(self.down(61), (one,), (), 999)
        # The call in the sixtieth body has the fault; behind it the aside can't be opened there, but below it can.
        self.assertEqual((events, end), ((("tell", 1), ("tell", 3)), ("answer", 0)))

    def test_asides_that_set_themselves_off(self):
        for form, rows in (("before", (told(1),)), ("around", (told(1),)), ("around", (("on", 0, ()),))):
            one = aside(0, form, rows)
            events, end, _ = run(program_of((told(2),)), (one,), (), 999)
            if rows[0][0] == "on":
                self.assertEqual((events, end), ((("tell", 2),), ("answer", 0)))
            else:
                self.assertEqual((events, end), ((), ("fault", 3)))
                self.assertEqual(len(openings(program_of((told(2),)), (one,), (), 999)), 60)

    def test_steps(self):
        asides = (aside(1, "behind", (told(1), REST)), aside(2, "before", (("rest",),)),
                  aside(3, "around", (("on", 0, ()), ("rest",)), (("tell", None),), ("same", slot(0), number(5))))
        asides = tuple(one[:3] + (("letters", (0,)),) + one[4:] for one in asides)
        program = program_of((told(5), REST))
        ends = [run(program, asides, (), steps) for steps in range(9)]
        self.assertEqual([end[0] for end in ends], [()] * 3 + [(("tell", 5),)] * 2 + [(("tell", 5), ("tell", 1))] * 4)
        self.assertEqual([end[1] for end in ends], [("bound",)] * 7 + [("answer", 0)] * 2)
        self.assertEqual([end[2] for end in ends], [0, 1, 2, 3, 4, 5, 6, 7, 7])

    def test_no_behind_body_behind_the_bound(self):
        one = aside(0, "behind", (("answer", ONE),), (("call", None),))
        program = program_of((REST, REST), (("call", 0, 0, ()),))
        self.check(program, (one,), ((), ("bound",), 2), (), 2)
        self.assertEqual(openings(program, (one,), (), 2), ((1,), (1, 0)))
        self.check(program, (one,), ((), ("bound",), 3), (), 3)
        self.assertEqual(openings(program, (one,), (), 3), ((1,), (1, 0), (1, -1)))
        self.check(program, (one,), ((), ("answer", 0), 4), (), 4)

    def test_sixty_bodies_of_asides_with_ons(self):
        rows = (("if", ONE, (("try", (("if", ONE, (("try", (("get", 0, 0),), (1,), 0, ()),), ()),), (2,), 0, ()),), ()),)
        one = aside(0, "around", rows, (("get", None),))
        self.check(program_of((("get", 0, 0),)), (one,), ((), ("fault", 3), 1 + 59 * 5))

    def test_ten_asides_with_ons_within_ons(self):
        asides = tuple(aside(name, "around", (("on", 0, (("plus", slot(0), ONE),)), ("answer", slot(0)))) for name in range(10))
        self.check(program_of((told(5),)), asides, ((("tell", 15),), ("answer", 0), 21))
        twice = tuple(aside(name, "around", (("on", 0, ()),) * 2) for name in range(10))
        self.check(program_of((told(5),)), twice, ((("tell", 5),) * 1024, ("answer", 0), 1 + 2047 - 1), (), 5000)

    def test_parts_of_more_than_sixty_four_states(self):
        part = ("row", (EVERY, ("letters", (0,))) + (("any",),) * 8)
        one = aside(0, "before", (told(9),), TELLS, ONE, part)
        again = (("if", slot(0), (("call", 1, 0, (("less", slot(0), ONE),)),), ()), ("tell", slot(0)))
        program = program_of((("call", 0, 0, (number(12),)),), ahead=((1, again),))
        fits = [row[4] for row in moments(program, (one,), (), 999) if row[0] == "tell" and row[3][-1] == 0]
        self.assertEqual(fits, [(0,)] * 5 + [()] * 8)


class Compared(Running):
    def test_runs_made(self):
        for seed in range(300):
            source = random.Random(seed)
            making = Making(source, source.choice((0, 1, 2)), source.choice(((0,), (1, 0), (2, 1, 0), (3, 0, 0))))
            program = making.program()
            asides = making.asides(program, source.randint(1, 5))
            inputs = tuple(source.choice((0, 1, -2, 5)) for _ in range(source.randint(0, 4)))
            for steps in (source.randint(0, 12), 120):
                wanted = Oracle(program, asides, inputs, steps)
                with self.subTest(seed=seed, steps=steps):
                    self.check(program, asides, (tuple(wanted.events), wanted.end, wanted.done), inputs, steps)
                    self.assertEqual(repr(moments(program, asides, inputs, steps)), repr(tuple(wanted.moments)))
                    self.assertEqual(repr(openings(program, asides, inputs, steps)), repr(tuple(wanted.openings)))


class Calls(unittest.TestCase):
    def test_the_same_again_and_nothing_changed(self):
        for seed in range(20):
            making = Making(random.Random(seed))
            program = making.program()
            handed = (program, making.asides(program, 3), (1, 2, 3), 60)
            kept, before = copy.deepcopy(handed), repr(handed)
            for call in (run, moments, openings):
                told = call(*handed)
                self.assertEqual(repr(call(*kept)), repr(told))
                self.assertEqual(repr(call(*handed)), repr(told))
                named = dict(zip(("steps", "inputs", "asides", "program"), handed[::-1]))
                self.assertEqual(repr(call(**named)), repr(told))
            self.assertEqual(repr(handed), before)


if __name__ == "__main__":
    unittest.main()
