"""What run, moments and openings tell of rows, expressions, tries and bounds: [B1] to [B3], [B5], [B7]."""

import random
import unittest

from asidewoven.machine import moments, openings, run
from making import Making
from oracle import Oracle
from samples import ONE, REST, program_of, within_rows

MOST = 10 ** 18


def number(n):
    return ("n", n)


def slot(s):
    return ("v", s)


class Running(unittest.TestCase):
    def check(self, program, wanted, inputs=(), steps=999, asides=()):
        """repr tells 1 from True, and a tuple from a list."""
        with self.subTest(program=repr(program)[:300]):
            self.assertEqual(repr(run(program, asides, inputs, steps)), repr(wanted))

    def check_answer(self, expression, answer, ahead=()):
        rows = tuple(ahead) + (("answer", expression),)
        self.check(program_of(rows), ((), ("answer", answer), len(rows)))

    def check_fault(self, expression, kind):
        """The expression has the fault in each row that reckons it, and nothing else is done by the row."""
        handed = (ONE, expression, ("part", ONE, number(0)))
        for row in (
            ("set", 0, expression), ("put", 0, expression), ("call", 0, 0, handed), ("if", expression, (REST,), (REST,)),
            ("tell", expression), ("answer", expression),
        ):
            program = program_of((("try", (row, ("tell", ONE)), (), 0, ()),), ahead=((3, (("tell", number(7)),)),))
            self.check(program, ((), ("fault", kind), 2))
            self.assertEqual(moments(program, (), (), 99), ())
            caught = program_of((("try", (row, ("tell", ONE)), (kind,), 5, ()), ("answer", slot(5))), ahead=((3, ()),))
            self.check(caught, ((), ("answer", kind), 3))


class Expressions(Running):
    def test_numbers_and_slots(self):
        for n in (0, 1, -1, MOST, -MOST):
            self.check_answer(number(n), n)
            for s in range(8):
                self.check_answer(slot(s), n, (("set", s, number(n)),))
        for s in range(8):
            self.check_answer(slot(s), 0)

    def test_operations(self):
        for op, a, b, answer in (
            ("plus", 2, 3, 5), ("plus", -2, -3, -5), ("less", 2, 3, -1), ("less", -2, -3, 1), ("times", -4, 3, -12),
            ("times", -4, -3, 12), ("times", 0, MOST, 0), ("below", 1, 2, 1), ("below", 2, 2, 0), ("below", 3, 2, 0),
            ("below", -MOST, MOST, 1), ("same", 2, 2, 1), ("same", 2, -2, 0), ("same", 0, 0, 1), ("part", 7, 2, 3),
            ("part", -7, 2, -4), ("part", 7, -2, -4), ("part", -7, -2, 3), ("part", 6, 3, 2), ("part", 0, -5, 0),
            ("part", -6, 3, -2), ("part", 1, MOST, 0), ("part", -1, MOST, -1), ("part", MOST, -1, -MOST),
            ("part", -MOST, -1, MOST), ("part", MOST, MOST, 1), ("part", MOST - 1, MOST, 0),
        ):
            self.check_answer((op, number(a), number(b)), answer)
            self.check_answer((op, slot(1), slot(2)), answer, (("set", 1, number(a)), ("set", 2, number(b))))

    def test_both_bounds_of_numbers(self):
        for op, a, b in (
            ("plus", MOST - 1, 1), ("plus", MOST, 0), ("less", MOST, 0), ("less", -MOST + 1, 1), ("less", -1, MOST - 1),
            ("times", MOST, 1), ("times", -MOST, -1), ("times", 10 ** 9, 10 ** 9), ("times", 10 ** 9, -(10 ** 9)),
        ):
            self.check_answer((op, number(a), number(b)), {"plus": a + b, "less": a - b, "times": a * b}[op])
        for op, a, b in (
            ("plus", MOST, 1), ("plus", -MOST, -1), ("plus", MOST, MOST), ("less", MOST, -1), ("less", -MOST, 1),
            ("less", -1, MOST), ("times", MOST, 2), ("times", MOST, MOST), ("times", 10 ** 9 + 1, 10 ** 9),
            ("times", -(10 ** 9) - 1, 10 ** 9), ("times", MOST, -2),
        ):
            self.check_fault((op, number(a), number(b)), 0)

    def test_part_by_nothing(self):
        for n in (0, 1, -1, MOST):
            self.check_fault(("part", number(n), number(0)), 1)
            self.check_fault(("part", number(n), slot(7)), 1)
        self.check_fault(("part", number(1), ("less", ONE, ONE)), 1)

    def test_which_fault_is_first(self):
        big, bad = ("plus", number(MOST), ONE), ("part", ONE, number(0))
        for op in ("plus", "less", "times", "part", "below", "same"):
            self.check_fault((op, big, bad), 0)
            self.check_fault((op, bad, big), 1)
            self.check_fault((op, ONE, big), 0)
            self.check_fault((op, ONE, bad), 1)
            self.check_fault((op, (op, ONE, bad), big), 1)
        self.check_fault(("part", big, number(0)), 0)
        self.check_fault(("part", number(1), ("part", big, number(0))), 0)
        self.check_fault(("times", ("times", number(MOST), number(MOST)), number(0)), 0)

    def test_the_first_of_several_expressions(self):
        big, bad = ("plus", number(MOST), ONE), ("part", ONE, number(0))
        for handed, kind in (((ONE, big, bad), 0), ((bad, big, ONE), 1), ((ONE, ONE, big), 0)):
            program = program_of((("call", 0, 0, handed),), ahead=((3, ()),))
            self.check(program, ((), ("fault", kind), 1))


class Rows(Running):
    def test_set_and_answer(self):
        self.check(program_of((("set", 3, number(4)), ("set", 3, ("times", slot(3), slot(3))), ("answer", slot(3)), REST)),
                   ((), ("answer", 16), 3))
        self.check(program_of((REST, REST)), ((), ("answer", 0), 2))
        self.check(program_of(()), ((), ("answer", 0), 0))

    def test_fault(self):
        for kind in range(10):
            self.check(program_of((REST, ("fault", kind), ("tell", ONE))), ((), ("fault", kind), 2))

    def test_if(self):
        for n, told in ((0, 2), (1, 1), (-1, 1), (MOST, 1)):
            program = program_of((("if", number(n), (("tell", ONE), REST), (("tell", number(2)),)), ("tell", number(3))))
            self.check(program, ((("tell", told), ("tell", 3)), ("answer", 0), 4 if n else 3))
        self.check(program_of((("if", ONE, (), (("fault", 1),)), ("if", number(0), (("fault", 1),), ()))),
                   ((), ("answer", 0), 2))

    def test_answer_and_fault_out_of_rows_within_rows(self):
        for ways in (((0, "if"),) * 4, ((0, "try"),) * 4, ((0, "if"), (0, "try")) * 2):
            for row, end in ((("answer", number(6)), ("answer", 6)), (("fault", 6), ("fault", 6))):
                self.check(program_of((within_rows(row, ways), ("tell", ONE))), ((), end, 5))

    def test_cells(self):
        program = program_of((("get", 0, 0), ("get", 1, 1), ("put", 0, slot(1)), ("put", 1, number(9)), ("get", 2, 0),
                              ("get", 3, 1), ("tell", slot(0)), ("tell", slot(2)), ("tell", slot(3))))
        self.check(program, ((("tell", 5), ("tell", -5), ("tell", 9)), ("answer", 0), 9))
        self.check(program, ((("tell", 5), ("tell", -5), ("tell", 9)), ("answer", 0), 9))

    def test_cells_are_those_of_the_run(self):
        bump = (("get", 0, 0), ("put", 0, ("plus", slot(0), ONE)))
        program = program_of(bump, (("call", 1, 0, ()), ("call", 1, 0, ()), ("get", 0, 0), ("answer", slot(0))))
        self.check(program, ((), ("answer", 7), 8))

    def test_calls(self):
        told = tuple(("tell", slot(s)) for s in range(8))
        program = program_of((("set", 7, ONE), ("call", 7, 0, (number(4), slot(7), number(6)))), ahead=((3, told),))
        self.check(program, (tuple(("tell", n) for n in (4, 1, 6, 0, 0, 0, 0, 0)), ("answer", 0), 10))
        program = program_of((("call", 3, 0, tuple(number(n) for n in range(8))), ("answer", slot(3))),
                             ahead=((8, told + (("answer", ("less", slot(7), number(9))),)),))
        self.check(program, (tuple(("tell", n) for n in range(8)), ("answer", -2), 11))

    def test_a_call_without_an_answer_answers_0(self):
        program = program_of((("set", 1, number(8)),), (("set", 1, number(5)), ("call", 1, 0, ()), ("answer", slot(1))))
        self.check(program, ((), ("answer", 0), 4))

    def test_slots_are_those_of_the_body(self):
        inner = (("set", 0, number(8)), ("set", 1, number(8)))
        program = program_of((("set", 0, ONE), ("call", 5, 0, (slot(0),)), ("answer", slot(0))), ahead=((1, inner),))
        self.check(program, ((), ("answer", 1), 5))
        again = (("if", slot(0), (("call", 1, 0, (("less", slot(0), ONE),)),), ()), ("tell", slot(0)), ("tell", slot(2)),
                 ("set", 2, number(9)))
        self.check(program_of((("call", 0, 0, (number(1),)),), ahead=((1, again),)),
                   ((("tell", 0), ("tell", 0), ("tell", 1), ("tell", 0)), ("answer", 0), 10))

    def test_the_main_function_can_be_called(self):
        main = (("get", 0, 0), ("put", 0, ("less", slot(0), ONE)), ("tell", slot(0)),
                ("if", ("below", number(3), slot(0)), (("call", 1, 0, ()), ("tell", slot(1))), ()), ("answer", slot(0)))
        self.check(((5,), ((0, main),)), ((("tell", 5), ("tell", 4), ("tell", 3), ("tell", 3), ("tell", 4)), ("answer", 5), 19))

    def test_asks(self):
        asks = tuple(("ask", s) for s in range(3)) + (("answer", ("less", slot(0), slot(2))),)
        self.check(program_of(asks), ((), ("answer", -20), 4), (10, 20, 30))
        self.check(program_of(asks), ((), ("answer", -20), 4), (10, 20, 30, 40))
        self.check(program_of(asks), ((), ("fault", 2), 3), (10, 20))
        self.check(program_of(asks), ((), ("fault", 2), 1))
        self.check(program_of((("try", asks, (2,), 7, (("answer", slot(1)),)),)), ((), ("answer", 20), 5), (10, 20))

    def test_many_inputs(self):
        body = (("ask", 0), ("tell", slot(0)))
        program = program_of(body, (("call", 0, 0, ()),) * 100)
        told = run(program, (), tuple(range(100)), 999)
        self.assertEqual(told, (tuple(("tell", n) for n in range(100)), ("answer", 0), 300))
        count = program_of((("ask", 0), ("ask", 0)), (("call", 0, 0, ()),) * 100)
        self.check(count, ((), ("answer", 0), 300), (7,) * 200)
        self.check(count, ((), ("fault", 2), 300), (7,) * 199)

    def test_tells(self):
        self.check(program_of((("tell", number(MOST)), ("tell", number(-MOST)), ("tell", number(0)))),
                   ((("tell", MOST), ("tell", -MOST), ("tell", 0)), ("answer", 0), 3))

    def test_tell_and_put_drop_their_answers(self):
        program = program_of((("set", 0, number(3)), ("tell", number(5)), ("put", 0, number(6)), ("answer", slot(0))))
        self.check(program, ((("tell", 5),), ("answer", 3), 4))


class Tries(Running):
    def test_taken_or_not(self):
        for kind in range(10):
            for kinds in ((), (kind,), tuple(range(10)), tuple(k for k in range(10) if k != kind)):
                program = program_of((("try", (("fault", kind), ("tell", ONE)), kinds, 4, (("tell", slot(4)),)), REST))
                end = ((("tell", kind),), ("answer", 0), 4) if kind in kinds else ((), ("fault", kind), 2)
                self.check(program, end)

    def test_no_fault(self):
        program = program_of((("try", (("tell", ONE),), (0, 1, 2, 3), 4, (("tell", number(2)),)), ("answer", slot(4))))
        self.check(program, ((("tell", 1),), ("answer", 0), 3))

    def test_the_innermost_that_takes_it(self):
        def inner(kinds):
            return ("try", (("fault", 3), ("tell", number(0))), kinds, 1, (("tell", number(1)),))

        def outer(kinds, within):
            return ("try", (within, ("tell", number(2))), kinds, 2, (("tell", number(3)),))

        told = number(4)
        for first, second, events in (
            ((3,), (3,), (1, 2, 4)), ((3,), (), (1, 2, 4)), ((2,), (3,), (3, 4)), ((), (1, 3), (3, 4)),
        ):
            program = program_of((outer(second, inner(first)), ("tell", told)))
            self.assertEqual(run(program, (), (), 99)[:2], (tuple(("tell", n) for n in events), ("answer", 0)))
        self.check(program_of((outer((4,), inner((5,))), ("tell", told))), ((), ("fault", 3), 3))

    def test_a_fault_in_the_last_rows_is_not_taken_there(self):
        inner = ("try", (("fault", 3),), (3,), 1, (("fault", 3), ("tell", ONE)))
        self.check(program_of((inner, ("tell", ONE))), ((), ("fault", 3), 3))
        outer = ("try", (inner,), (3,), 2, (("tell", slot(2)), ("tell", slot(1))))
        self.check(program_of((outer,)), ((("tell", 3), ("tell", 3)), ("answer", 0), 6))

    def test_a_try_that_is_over_takes_nothing(self):
        program = program_of((("try", (REST,), (3,), 1, (("tell", ONE),)), ("fault", 3)))
        self.check(program, ((), ("fault", 3), 3))
        program = program_of((("try", (("try", (REST,), (3,), 1, (("tell", ONE),)), ("fault", 3)), (), 1, ()),))
        self.check(program, ((), ("fault", 3), 4))

    def test_the_last_row_of_the_first_rows(self):
        for row, kind in ((("fault", 3), 3), (("call", 0, 0, ()), 7), (("ask", 0), 2), (("tell", ("part", ONE, number(0))), 1)):
            program = program_of((("fault", 7),), (("try", (REST, row), (kind,), 1, (("answer", slot(1)),)), ("fault", 9)))
            self.assertEqual(run(program, (), (), 99)[:2], ((), ("answer", kind)))

    def test_tries_of_other_bodies(self):
        inner = (("try", (("fault", 1),), (2,), 0, ()),)
        program = program_of(inner, (("try", (("call", 0, 0, ()), ("tell", ONE)), (1,), 6, (("answer", slot(6)),)),))
        self.check(program, ((), ("answer", 1), 5))
        program = program_of((("fault", 1),), (("try", (REST,), (1,), 0, ()), ("call", 0, 0, ()), ("tell", ONE)))
        self.check(program, ((), ("fault", 1), 4))

    def test_a_fault_goes_through_ifs_and_bodies(self):
        deep = ("if", ONE, (("if", number(0), (), (("if", ONE, (("call", 0, 0, ()),), ()),)),), ())
        program = program_of((("if", ONE, (("fault", 8),), ()),), (("try", (deep,), (8,), 3, ()), ("answer", slot(3))))
        self.check(program, ((), ("answer", 8), 8))

    def test_an_answer_goes_through_tries(self):
        program = program_of((("try", (("try", (("answer", number(4)),), (0, 1), 0, (REST,)),), (4,), 0, (REST,)), REST))
        self.check(program, ((), ("answer", 4), 3))

    def test_the_slot_of_the_kind_alone_is_changed(self):
        rows = (("set", 0, number(5)), ("try", (("set", 1, number(6)), ("fault", 9)), (9,), 2, ()))
        program = program_of(rows + tuple(("tell", slot(s)) for s in range(4)))
        self.check(program, ((("tell", 5), ("tell", 6), ("tell", 9), ("tell", 0)), ("answer", 0), 8))


class Bounds(Running):
    ROWS = (("tell", ONE), ("if", ONE, (("try", (("tell", number(2)), ("fault", 1)), (1,), 0, (("tell", number(3)),)),), ()))
    EVENTS = (("tell", 1), ("tell", 2), ("tell", 3))

    def test_steps(self):
        program = program_of(self.ROWS)
        for steps, events in ((0, 0), (1, 1), (2, 1), (3, 1), (4, 2), (5, 2)):
            self.check(program, (self.EVENTS[:events], ("bound",), steps), (), steps)
        for steps in (6, 7, 5000):
            self.check(program, (self.EVENTS, ("answer", 0), 6), (), steps)

    def test_no_steps(self):
        self.check(program_of(()), ((), ("answer", 0), 0), (), 0)
        self.check(program_of((REST,)), ((), ("bound",), 0), (), 0)
        self.assertEqual(openings(program_of((REST,)), (), (), 0), ((0,),))

    def test_just_as_many_as_are_needed(self):
        program = program_of((REST, ("answer", ONE)), (("call", 0, 0, ()),))
        self.check(program, ((), ("answer", 0), 3), (), 3)
        self.check(program, ((), ("bound",), 2), (), 2)
        program = program_of((("fault", 4),), (("call", 0, 0, ()),))
        self.check(program, ((), ("fault", 4), 2), (), 2)

    def test_an_empty_body_at_the_bound(self):
        program = program_of((), (("call", 0, 0, ()),))
        self.check(program, ((), ("answer", 0), 1), (), 1)

    def test_no_try_takes_the_bound(self):
        program = program_of((("try", (REST, REST), tuple(range(10)), 0, (("tell", ONE),)),))
        self.check(program, ((), ("bound",), 2), (), 2)

    def test_five_thousand(self):
        loop = (("call", 0, 0, ()),) * 3
        program = program_of((REST,) * 40, loop * 40)
        self.check(program, ((), ("answer", 0), 120 * 41), (), 5000)
        program = program_of((REST,) * 48, (("call", 0, 0, ()),) * 60, (("call", 0, 1, ()),) * 4)
        self.assertEqual(run(program, (), (), 5000), ((), ("bound",), 5000))

    def test_a_pile_of_sixty(self):
        def down(many):
            again = ("if", slot(0), (("call", 1, 0, (("less", slot(0), ONE),)),), ())
            return program_of((("call", 0, 0, (number(many),)), ("answer", slot(0))),
                              ahead=((1, (again, ("answer", ("plus", slot(1), ONE)))),))

        self.check(down(57), ((), ("answer", 58), 2 + 58 * 2 + 57))
        self.check(down(58), ((), ("answer", 59), 2 + 59 * 2 + 58))
        self.check(down(59), ((), ("fault", 3), 1 + 59 * 2))
        self.assertEqual(max(len(pile) for pile in openings(down(57), (), (), 999)), 59)
        self.assertEqual(max(len(pile) for pile in openings(down(58), (), (), 999)), 60)
        self.assertEqual(max(len(pile) for pile in openings(down(59), (), (), 999)), 60)
        self.assertEqual(moments(down(59), (), (), 999)[-1], ("call", 0, (-0,), (1,) + (0,) * 59, ()))

    def test_the_full_pile_is_caught(self):
        again = (("try", (("call", 0, 0, ()),), (3,), 1, (("tell", slot(1)), ("answer", number(5)))), ("answer", slot(0)))
        program = program_of(again)
        self.check(program, ((("tell", 3),), ("answer", 5), 60 * 2 + 2 + 59))

    def test_sixty_bodies_with_rows_within_rows(self):
        deep = within_rows(("call", 0, 0, ()), ((0, "if"), (0, "try"), (0, "if"), (0, "try")))
        self.check(program_of((deep,)), ((), ("fault", 3), 300))
        caught = within_rows(("call", 0, 0, ()), ((0, "try"),) * 4)
        self.check(program_of((caught,)), ((), ("fault", 3), 300))


class Telling(Running):
    def test_moments_and_openings_without_asides(self):
        program = program_of((("tell", slot(1)), ("get", 0, 1)), (("put", 1, number(7)), ("call", 0, 0, (ONE, number(2))), ("ask", 3)),
                             (("try", (("call", 0, 1, ()),), (2,), 0, (("tell", slot(0)),)),))
        program = (program[0], ((2, program[1][0][1]),) + program[1][1:])
        self.assertEqual(repr(moments(program, (), (), 99)), repr((
            ("call", 1, (), (2,), ()), ("put", 1, (7,), (2, 1), ()), ("call", 0, (1, 2), (2, 1), ()),
            ("tell", None, (2,), (2, 1, 0), ()), ("get", 1, (), (2, 1, 0), ()), ("ask", None, (), (2, 1), ()),
            ("tell", None, (2,), (2,), ()),
        )))
        self.assertEqual(repr(openings(program, (), (), 99)), repr(((2,), (2, 1), (2, 1, 0))))
        self.check(program, ((("tell", 2), ("tell", 2)), ("answer", 0), 8))

    def test_no_moment_for_the_main_function_and_for_faults(self):
        self.assertEqual(moments(program_of((REST, ("answer", ONE))), (), (), 9), ())
        self.assertEqual(moments(program_of((("tell", ("part", ONE, number(0))),)), (), (), 9), ())

    def test_what_the_bound_leaves(self):
        program = program_of((("tell", number(1)), ("tell", number(2))), (("call", 0, 0, ()), ("call", 0, 0, ())))
        for steps, many, opened in ((0, 0, 1), (1, 1, 2), (2, 2, 2), (3, 3, 2), (4, 4, 3), (6, 6, 3), (99, 6, 3)):
            self.assertEqual(len(moments(program, (), (), steps)), many)
            self.assertEqual(len(openings(program, (), (), steps)), opened)

    def test_runs_made_and_compared(self):
        for seed in range(400):
            source = random.Random(seed)
            making = Making(source, source.choice((0, 1, 2)), source.choice(((0,), (1, 0), (2, 1, 0), (3, 0, 0))))
            program = making.program()
            inputs = tuple(source.choice((0, 1, -2, 5)) for _ in range(source.randint(0, 4)))
            for steps in (source.randint(0, 9), 200):
                oracle = Oracle(program, (), inputs, steps)
                with self.subTest(seed=seed, steps=steps):
                    self.check(program, (tuple(oracle.events), oracle.end, oracle.done), inputs, steps)
                    self.assertEqual(repr(moments(program, (), inputs, steps)), repr(tuple(oracle.moments)))
                    self.assertEqual(repr(openings(program, (), inputs, steps)), repr(tuple(oracle.openings)))


if __name__ == "__main__":
    unittest.main()
