"""What program_error tells: [A4], [A5], [A6], [A9]."""

import itertools
import unittest

from asidewoven.programs import program_error
from samples import (
    AHEAD, MAIN, NEVER, NO_INTEGERS, NO_TUPLES, ONE, REST, RIGHT_EXPRESSIONS, RIGHT_ONS, RIGHT_ROWS, WRONG_EXPRESSIONS,
    WRONG_ROWS, nested, program_of, wide, with_item, within_rows,
)


class Telling(unittest.TestCase):
    def check(self, program, told):
        """repr tells 1 from True and a tuple from a list, as == does not."""
        with self.subTest(program=repr(program)[:300]):
            self.assertEqual(repr(program_error(program)), repr(told))


class Forms(Telling):
    def test_least_program(self):
        self.check(((), ((0, ()),)), None)

    def test_what_is_no_pair(self):
        functions = ((0, ()),)
        for value in NO_TUPLES + ((), ((),), ((), functions, ()), [(), functions], {(): functions}, (functions,)):
            self.check(value, "form")

    def test_form_goes_ahead_of_cells_and_functions(self):
        self.check((None, None, None), "form")
        self.check((None,), "form")

    def test_cells(self):
        for cells in ((), (0,), (10 ** 18, -(10 ** 18)), (1,) * 8, (0, 0)):
            self.check((cells, ((0, ()),)), None)

    def test_wrong_cells(self):
        for cells in NO_TUPLES + ((1,) * 9, (10 ** 18 + 1,), (-(10 ** 18) - 1,), (10 ** 399,), (0,) * 7 + (None,)):
            self.check((cells, ((0, ()),)), "cells")

    def test_cells_of_other_kinds(self):
        for item in NO_INTEGERS:
            self.check(((item,), ((0, ()),)), "cells")
            self.check(((0, item, 0), ((0, ()),)), "cells")

    def test_cells_go_ahead_of_functions(self):
        self.check((None, None), "cells")
        self.check(((True,), ()), "cells")
        self.check(((0,) * 9, ((1, ()),)), "cells")

    def test_many_functions(self):
        for many in (1, 2, 11, 12):
            self.check(((), ((0, ()),) * many), None)
        for many in (0, 13, 40):
            self.check(((), ((0, ()),) * many), "functions")

    def test_functions_of_other_kinds(self):
        for value in NO_TUPLES:
            self.check(((), value), "functions")
        self.check(((), [(0, ())]), "functions")

    def test_functions_go_ahead_of_function(self):
        self.check(((), (None,) * 13), "functions")


class Functions(Telling):
    def test_parameters(self):
        for many in range(9):
            self.check(((), ((many, ()), (0, ()))), None)
        for many in (9, 10, -1, 10 ** 399):
            self.check(((), ((many, ()), (0, ()))), ((0,), "function"))

    def test_parameters_of_other_kinds(self):
        for value in NO_INTEGERS:
            self.check(((), ((value, ()), (0, ()))), ((0,), "function"))
            self.check(((), ((0, ()), (value, ()))), ((1,), "function"))

    def test_parameters_of_the_main_function(self):
        for many in (1, 8, 9, -1):
            self.check(((), ((many, ()),)), ((0,), "function"))
            self.check(((), ((3, ()), (2, ()), (many, ()))), ((2,), "function"))

    def test_what_is_no_pair_with_rows(self):
        for value in NO_TUPLES + ((), (0,), (0, (), ()), [0, ()], ((), 0)):
            self.check(((), (value,)), ((0,), "function"))
            self.check(((), ((0, ()), value, (0, ()))), ((1,), "function"))

    def test_rows_that_are_no_tuple(self):
        for value in NO_TUPLES + ([REST],):
            self.check(((), ((0, value),)), ((0,), "function"))
            self.check(((), ((8, value), (0, ()))), ((0,), "function"))

    def test_least_function_is_told(self):
        self.check(((), ((0, ()), (9, ()), None, (1, ()))), ((1,), "function"))
        self.check(((), ((0, ()),) * 11 + ((1, ()),)), ((11,), "function"))

    def test_function_goes_ahead_of_row(self):
        self.check(((), ((0, (None,)), None)), ((1,), "function"))
        self.check(((), ((0, (("call", 0, 1, ()),)), (1, ()))), ((1,), "function"))

    def test_function_goes_ahead_of_rows(self):
        self.check(((), ((0, (REST,) * 121), (1, ()))), ((1,), "function"))


class Rows(Telling):
    def test_right_rows(self):
        for row in RIGHT_ROWS:
            self.check(wide(row), None)
        self.check(wide(*RIGHT_ROWS), None)

    def test_wrong_rows(self):
        for row in WRONG_ROWS + NEVER:
            self.check(wide(row), ((MAIN, 0), "row"))
            self.check(wide(REST, row, REST), ((MAIN, 1), "row"))

    def test_items_too_many_and_too_few(self):
        for row in RIGHT_ROWS + RIGHT_ONS:
            for value in (row[:-1], row + (None,), row + (0,), row + ((),), row + (ONE,), list(row), (row,)):
                self.check(wide(value), ((MAIN, 0), "row"))

    def test_items_of_other_kinds(self):
        for row in RIGHT_ROWS:
            for at in range(len(row)):
                for value in NEVER:
                    if at or value != row[0]:
                        self.check(wide(with_item(row, at, value)), ((MAIN, 0), "row"))

    def test_a_tuple_where_an_integer_is_due(self):
        for row in RIGHT_ROWS:
            for at in range(1, len(row)):
                if isinstance(row[at], int):
                    for value in ((), (row[at],), ONE):
                        self.check(wide(with_item(row, at, value)), ((MAIN, 0), "row"))

    def test_no_on_in_a_function(self):
        for row in RIGHT_ONS:
            self.check(wide(row), ((MAIN, 0), "row"))
            self.check(((), ((0, (REST, row)), (0, ()))), ((0, 1), "row"))
            for many in range(1, 5):
                for ways in itertools.product(((0, "if"), (1, "if"), (0, "try"), (1, "try")), repeat=many):
                    place = tuple(number for which, _ in ways for number in (which, 0))
                    self.check(wide(within_rows(row, ways)), ((MAIN, 0) + place, "row"))

    def test_cells_of_the_program(self):
        for many in range(9):
            for cell in range(10):
                for row in (("get", 0, cell), ("put", cell, ONE)):
                    told = None if cell < many else ((0, 0), "row")
                    self.check(((0,) * many, ((0, (row,)),)), told)

    def test_functions_of_the_program(self):
        for many in range(1, 13):
            for f in (0, many - 1, many, 12):
                told = None if f < many else ((0, 0), "row")
                self.check(((), ((0, (("call", 0, f, ()),)),) + ((0, ()),) * (many - 1)), told)

    def test_a_call_hands_as_many_as_there_are_parameters(self):
        for parameters in range(9):
            for handed in range(10):
                rows = (("call", 0, 0, (ONE,) * handed),)
                told = None if handed == parameters else ((1, 0), "row")
                self.check(((), ((parameters, ()), (0, rows))), told)

    def test_the_called_function_counts_not_the_calling_one(self):
        self.check(((), ((1, (("call", 0, 1, ()), ("call", 0, 0, (ONE,)))), (0, (("call", 0, 0, (ONE,)),)))), None)
        self.check(((), ((1, (("call", 0, 1, (ONE,)),)), (0, ()))), ((0, 0), "row"))

    def test_later_functions_can_be_called(self):
        self.check(((), ((0, (("call", 0, 1, (ONE, ONE)), ("call", 0, 2, ()))), (2, ()), (0, ()))), None)

    def test_slots(self):
        made = (
            lambda slot: ("set", slot, ONE), lambda slot: ("ask", slot), lambda slot: ("get", slot, 0),
            lambda slot: ("call", slot, 0, ()), lambda slot: ("try", (), (), slot, ()),
        )
        for make in made:
            for slot in range(8):
                self.check(wide(make(slot)), None)
            for slot in (8, 9, -1, 10 ** 18):
                self.check(wide(make(slot)), ((MAIN, 0), "row"))

    def test_kinds(self):
        for kind in range(10):
            self.check(wide(("fault", kind)), None)
            self.check(wide(("try", (), (kind,), 0, ())), None)
        for kind in (10, -1, 100, 10 ** 18):
            self.check(wide(("fault", kind)), ((MAIN, 0), "row"))
            self.check(wide(("try", (), (kind,), 0, ())), ((MAIN, 0), "row"))
        for kinds in itertools.product(range(10), repeat=2):
            told = None if kinds[0] < kinds[1] else ((MAIN, 0), "row")
            self.check(wide(("try", (), kinds, 0, ())), told)


class Expressions(Telling):
    def made(self, e):
        """Rows that have the expression at each place where one can be."""
        return (
            ("set", 0, e), ("put", 0, e), ("tell", e), ("answer", e), ("if", e, (), ()),
            ("call", 0, 1, (e, ONE)), ("call", 0, 1, (ONE, e)), ("call", 0, 2, (ONE,) * 7 + (e,)),
        )

    def test_right_ones(self):
        for e in RIGHT_EXPRESSIONS:
            for row in self.made(e):
                self.check(wide(row), None)

    def test_wrong_ones(self):
        for e in WRONG_EXPRESSIONS + NEVER:
            for row in self.made(e):
                self.check(wide(row), ((MAIN, 0), "row"))

    def test_depths(self):
        for op in ("plus", "less", "times", "part", "below", "same"):
            for side in range(3):
                for depth in range(1, 9):
                    told = None if depth <= 6 else ((MAIN, 0), "row")
                    self.check(wide(("tell", nested(depth, op, side))), told)

    def test_one_side_is_deeper(self):
        for left in range(1, 8):
            for right in range(1, 8):
                told = None if max(left, right) <= 5 else ((MAIN, 0), "row")
                self.check(wide(("tell", ("less", nested(left), nested(right)))), told)

    def test_a_wrong_one_at_each_leaf(self):
        for ways in itertools.product((1, 2), repeat=5):
            for wrong in (("v", 8), ("n", True), ONE[:1], None):
                e = wrong
                for way in ways:
                    e = ("plus", e, ONE) if way == 1 else ("plus", ONE, e)
                self.check(wide(("tell", e)), ((MAIN, 0), "row"))


class Places(Telling):
    WRONG = ("set", 8, ONE)

    def test_within_rows(self):
        for many in range(1, 5):
            for ways in itertools.product(((0, "if"), (1, "if"), (0, "try"), (1, "try")), repeat=many):
                place = tuple(number for which, _ in ways for number in (which, 0))
                self.check(wide(REST, within_rows(self.WRONG, ways)), ((MAIN, 1) + place, "row"))

    def test_the_number_within_rows(self):
        for number in range(4):
            rows = (REST,) * number + (self.WRONG, REST)
            self.check(wide(("if", ONE, rows, ())), ((MAIN, 0, 0, number), "row"))
            self.check(wide(("if", ONE, (), rows)), ((MAIN, 0, 1, number), "row"))
            self.check(wide(("try", rows, (), 0, ())), ((MAIN, 0, 0, number), "row"))
            self.check(wide(("try", (), (), 0, rows)), ((MAIN, 0, 1, number), "row"))

    def test_rows_within_that_are_no_rows(self):
        for value in NO_TUPLES:
            self.check(wide(REST, ("if", ONE, value, ())), ((MAIN, 1), "row"))
            self.check(wide(REST, ("if", ONE, (), value)), ((MAIN, 1), "row"))
            self.check(wide(REST, ("try", value, (), 0, ())), ((MAIN, 1), "row"))
            self.check(wide(REST, ("try", (), (), 0, value)), ((MAIN, 1), "row"))

    def test_first_and_second_rows_may_be_any_tuples(self):
        self.check(wide(("if", ONE, (1, 2), ())), ((MAIN, 0, 0, 0), "row"))
        self.check(wide(("if", ONE, REST, ())), ((MAIN, 0, 0, 0), "row"))
        self.check(wide(("try", (), (), 0, (REST, ONE))), ((MAIN, 0, 1, 1), "row"))

    def test_a_row_goes_ahead_of_what_is_within_it(self):
        self.check(wide(("if", ("v", 8), (None,), (None,))), ((MAIN, 0), "row"))
        self.check(wide(("try", (None,), (1, 0), 0, ())), ((MAIN, 0), "row"))
        self.check(wide(("if", ONE, (None,), 0)), ((MAIN, 0), "row"))

    def test_the_least_place_is_told(self):
        wrong = self.WRONG
        self.check(wide(wrong, wrong), ((MAIN, 0), "row"))
        self.check(wide(("if", ONE, (), (wrong,)), wrong), ((MAIN, 0, 1, 0), "row"))
        self.check(wide(("if", ONE, (REST, wrong), (wrong,)), wrong), ((MAIN, 0, 0, 1), "row"))
        self.check(wide(("try", (("if", ONE, (), (wrong,)), wrong), (), 0, (wrong,))), ((MAIN, 0, 0, 0, 1, 0), "row"))
        self.check(wide(("if", ONE, (("if", ONE, (), ()),), (wrong,)), wrong), ((MAIN, 0, 1, 0), "row"))

    def test_the_tenth_place_is_behind_the_second(self):
        self.check(wide(*((REST,) * 10 + (None,))), ((MAIN, 10), "row"))
        self.check(wide(*((REST,) * 2 + (None,) + (REST,) * 8 + (None,))), ((MAIN, 2), "row"))

    def test_the_least_function_goes_ahead_of_the_least_place(self):
        self.check(program_of((REST, REST, None), (None,), (REST,)), ((0, 2), "row"))
        self.check(program_of((REST,), (("if", ONE, (), (None,)),), (None,)), ((1, 0, 1, 0), "row"))

    def test_each_function(self):
        for f in range(12):
            bodies = [(REST,)] * 12
            bodies[f] = (REST, None)
            self.check(program_of(*bodies), ((f, 1), "row"))


class Nesting(Telling):
    def test_four_within_one_another(self):
        for ways in itertools.product(((0, "if"), (1, "if"), (0, "try"), (1, "try")), repeat=4):
            self.check(wide(within_rows(REST, ways)), None)

    def test_five_within_one_another(self):
        for ways in itertools.product(((0, "if"), (1, "if"), (0, "try"), (1, "try")), repeat=5):
            place = tuple(number for which, _ in ways[:4] for number in (which, 0))
            self.check(wide(within_rows(REST, ways)), ((MAIN, 0) + place, "row"))

    def test_even_without_rows_a_fifth_is_none(self):
        for fifth in (("if", ONE, (), ()), ("try", (), (), 0, ())):
            row = within_rows(fifth, ((0, "if"), (1, "try"), (1, "if"), (0, "try")))
            self.check(wide(REST, row), ((MAIN, 1, 0, 0, 1, 0, 1, 0, 0, 0), "row"))

    def test_many_beside_one_another(self):
        branch = ("if", ONE, (), ())
        row = ("if", ONE, (branch,) * 4, (("try", (branch,) * 4, (), 0, (branch,) * 4),) * 3)
        self.check(wide(row, branch, branch, branch, branch, branch), None)

    def test_far_deeper(self):
        row = REST
        for _ in range(6):
            row = ("try", (row,), (), 0, ())
        self.check(wide(row), ((MAIN,) + (0,) * 9, "row"))


class ManyRows(Telling):
    def test_in_one_function(self):
        for many in (119, 120):
            self.check(((), ((0, (REST,) * many),)), None)
        for many in (121, 122, 500):
            self.check(((), ((0, (REST,) * many),)), (None, "rows"))

    def test_in_all_functions_together(self):
        self.check(program_of(*[(REST,) * 10] * 12), None)
        self.check(program_of(*[(REST,) * 10] * 11, (REST,) * 11), (None, "rows"))
        self.check(program_of((REST,) * 11, *[(REST,) * 10] * 11), (None, "rows"))
        self.check(program_of((REST,) * 60, (REST,) * 60), None)
        self.check(program_of((REST,) * 60, (REST,) * 61), (None, "rows"))

    def test_those_within_rows_too(self):
        for many, told in ((119, None), (120, (None, "rows"))):
            rows = (REST,) * many
            self.check(wide(("if", ONE, rows, ())), told)
            self.check(wide(("if", ONE, (), rows)), told)
            self.check(wide(("try", rows, (), 0, ())), told)
            self.check(wide(("try", (), (), 0, rows)), told)
            self.check(wide(("if", ONE, rows[:50], rows[50:])), told)

    def test_at_each_depth(self):
        ways = ((0, "if"), (1, "try"), (0, "try"), (1, "if"))
        self.check(wide(within_rows(REST, ways), *[REST] * 115), None)
        self.check(wide(within_rows(REST, ways), *[REST] * 116), (None, "rows"))

    def test_row_goes_ahead_of_rows(self):
        self.check(((), ((0, (REST,) * 200 + (None,)),)), ((0, 200), "row"))
        self.check(program_of((REST,) * 121, (("on", 0, ()),)), ((1, 0), "row"))


class AnyFunctionsAhead(Telling):
    def test_the_sample_itself(self):
        self.check(wide(), None)
        self.assertEqual([parameters for parameters, _ in AHEAD], [0, 2, 8, 0])


if __name__ == "__main__":
    unittest.main()
