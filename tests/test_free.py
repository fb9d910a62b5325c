"""What free_run tells: [F1] to [F3]."""

import copy
import random
import unittest

from asidewoven.free import free_run
from free_oracle import FreeOracle
from samples import ONE, REST, program_of
from test_nodes import CALL, EVERY, QUOTIENT, SLOT, SUM, TELL, TELLS, aside, made

DEED = ("deed", "tell", None)
BOTH = ("part", SUM, ONE)


def on_main(*rows, ahead=()):
    return ((1, 2), tuple(ahead) + ((0, rows),))


class Free(unittest.TestCase):
    def check(self, program, choices, notes, pile=(), asides=()):
        with self.subTest(program=repr(program)[:200], choices=choices):
            self.assertEqual(repr(free_run(program, asides, choices)), repr((tuple(notes), pile)))

    def main(self, rows, choices, *notes, pile=(), asides=(), ahead=()):
        """The free run of a main function with these rows, opened by a first choice, told without its first note."""
        program = on_main(*rows, ahead=ahead)
        self.check(program, (0,) + tuple(choices), (("body", len(ahead)),) + notes, pile, asides)


class Bodies(Free):
    def test_the_main_body(self):
        program = on_main(TELL)
        self.check(program, (), [("body", 0)])
        self.check(program, (1,), [("body", 0)])
        self.check(program, (0,), [("body", 0), DEED, ("end", 0)])
        self.check(program, (0, 1, 2, 3), [("body", 0), DEED, ("end", 0)])
        self.check(on_main(), (0,), [("body", 0), ("end", 0)])

    def test_choices_are_taken_modulo_the_ways(self):
        for choice in range(10):
            notes = [("body", 0)] + ([DEED, ("end", 0)] if choice % 2 == 0 else [])
            self.check(on_main(TELL), (choice,), notes)

    def test_calls(self):
        ahead = ((0, (TELL,)),)
        self.main((CALL, TELL), (), ("body", 0), pile=(1,), ahead=ahead)
        self.main((CALL, TELL), (0,), ("body", 0), DEED, ("end", 0), DEED, ("end", 1), ahead=ahead)
        self.main((CALL, TELL), (1,), ("body", 0), ("end", 1), ahead=ahead)
        caught = (("try", (CALL,), (3,), 0, (TELL,)),)
        self.main(caught, (1,), ("body", 0), DEED, ("end", 1), ahead=ahead)
        self.main(caught, (0,), ("body", 0), DEED, ("end", 0), ("end", 1), ahead=ahead)

    def test_more_bodies_than_a_pile_has(self):
        notes, pile = free_run(on_main(CALL), (), (0,) * 200)
        self.assertEqual((notes, pile), ((("body", 0),) * 201, (0,) * 200))
        notes, pile = free_run(on_main(("try", (CALL,), (3,), 0, (TELL,))), (), (0,) * 199 + (1,))
        self.assertEqual((notes, pile), ((("body", 0),) * 200 + (DEED,) + (("end", 0),) * 199, ()))

    def test_ends_of_each_kind(self):
        for row in (REST, ("answer", ONE), ("fault", 3)):
            self.main((CALL, TELL), (0,), ("body", 0), ("end", 0), *(() if row[0] == "fault" else (DEED,)), ("end", 1), ahead=((0, (row,)),))

    def test_a_fault_that_ends_several_bodies(self):
        ahead = ((0, (("fault", 4),)), (0, (CALL, TELL)), (0, (("call", 0, 1, ()), TELL)))
        ends = (("end", 0), ("end", 1), ("end", 2))
        self.main((("call", 0, 2, ()),), (0, 0, 0), ("body", 2), ("body", 1), ("body", 0), *ends, ("end", 3), ahead=ahead)
        self.main((("try", (("call", 0, 2, ()),), (4,), 0, (TELL,)),), (0, 0, 0),
                  ("body", 2), ("body", 1), ("body", 0), *ends, DEED, ("end", 3), ahead=ahead)

    def test_open_bodies_have_no_end_where_the_run_stops(self):
        ahead = ((0, (("ask", 0), TELL)),)
        self.main((CALL,), (0,), ("body", 0), ("ask",), pile=(1, 0), ahead=ahead)


class Rows(Free):
    def test_each_row_with_expressions(self):
        ahead = ((2, ()),)
        for row, notes in (
            (("set", 0, SUM), ()), (("put", 1, SUM), (("deed", "put", 1),)), (("call", 0, 0, (ONE, SUM)), None), (("tell", SUM), (DEED,)),
            (("answer", SUM), ()),
        ):
            self.main((REST, row), (), ("row", (1,)), pile=(1,), ahead=ahead)
            self.main((REST, row), (1,), ("row", (1,)), ("end", 1), ahead=ahead)
            if notes is None:
                self.main((REST, row), (0,), ("row", (1,)), ("body", 0), pile=(1,), ahead=ahead)
            else:
                self.main((REST, row), (0,), ("row", (1,)), *notes, ("end", 1), ahead=ahead)

    def test_which_kinds(self):
        for expression, kinds in (
            (SUM, (0,)), (("less", ONE, ONE), (0,)), (("times", SLOT, ONE), (0,)), (QUOTIENT, (1,)), (BOTH, (0, 1)),
            (("same", ONE, ("below", ONE, QUOTIENT)), (1,)), (("same", SUM, QUOTIENT), (0, 1)), (("plus", QUOTIENT, QUOTIENT), (0, 1)),
        ):
            for choice in range(10):
                way = choice % (len(kinds) + 1)
                for kind in (0, 1):
                    rows = (("try", (("set", 0, expression),), (kind,), 0, (TELL,)),)
                    taken = way > 0 and kinds[way - 1] == kind
                    self.main(rows, (choice,), ("row", (0, 0, 0)), *((DEED,) if taken else ()), ("end", 0))

    def test_no_choose_without_those_words(self):
        for expression in (ONE, SLOT, ("below", ONE, SLOT), ("same", SLOT, ("below", ONE, ONE))):
            self.main((("set", 0, expression), ("tell", expression), ("answer", expression)), (), DEED, ("end", 0))

    def test_one_choose_for_all_expressions(self):
        ahead = ((3, ()),)
        self.main((("call", 0, 0, (SUM, ONE, QUOTIENT)),), (2,), ("row", (0,)), ("end", 1), ahead=ahead)
        self.main((("call", 0, 0, (SUM, ONE, SUM)),), (2, 0), ("row", (0,)), ("body", 0), ("end", 0), ("end", 1), ahead=ahead)

    def test_if(self):
        rows = (("if", SLOT, (TELL,), (("get", 0, 1),)), REST)
        self.main(rows, (), ("if", (0,)), pile=(0,))
        for choice in range(10):
            deed = DEED if choice % 2 == 1 else ("deed", "get", 1)
            self.main(rows, (choice,), ("if", (0,)), deed, ("end", 0))

    def test_if_by_a_number(self):
        for expression, deed in ((ONE, DEED), (("n", -3), DEED), (("n", 0), ("deed", "get", 1))):
            self.main((("if", expression, (TELL,), (("get", 0, 1),)),), (), deed, ("end", 0))

    def test_if_with_a_fault(self):
        rows = (("try", (("if", BOTH, (TELL,), ()),), (1,), 0, (("put", 0, ONE),)),)
        self.main(rows, (0,), ("row", (0, 0, 0)), ("if", (0, 0, 0)), pile=(0,))
        self.main(rows, (0, 1), ("row", (0, 0, 0)), ("if", (0, 0, 0)), DEED, ("end", 0))
        self.main(rows, (3, 0), ("row", (0, 0, 0)), ("if", (0, 0, 0)), ("end", 0))
        self.main(rows, (1,), ("row", (0, 0, 0)), ("end", 0))
        self.main(rows, (2,), ("row", (0, 0, 0)), ("deed", "put", 0), ("end", 0))

    def test_places_of_rows(self):
        inner = ("if", SLOT, (REST, ("set", 0, SUM)), (("set", 0, SUM),))
        rows = (REST, ("try", (("fault", 1),), (1,), 0, (REST, REST, inner)), ("set", 0, SUM))
        self.main(rows, (1, 0), ("if", (1, 1, 2)), ("row", (1, 1, 2, 0, 1)), ("row", (2,)), pile=(0,))
        self.main(rows, (0, 0, 0), ("if", (1, 1, 2)), ("row", (1, 1, 2, 1, 0)), ("row", (2,)), ("end", 0))

    def test_try(self):
        def row(kinds):
            return (("try", (("fault", 4), TELL), kinds, 0, (("get", 0, 0),)), TELL)

        self.main(row((4,)), (), ("deed", "get", 0), DEED, ("end", 0))
        self.main(row((3, 5)), (), ("end", 0))

    def test_deeds(self):
        rows = (("get", 0, 1), ("put", 0, ONE), TELL, ("get", 3, 0))
        self.main(rows, (), ("deed", "get", 1), ("deed", "put", 0), DEED, ("deed", "get", 0), ("end", 0))

    def test_ask(self):
        rows = (("ask", 0), TELL)
        self.main(rows, (), ("ask",), pile=(0,))
        for choice in range(10):
            rest = (("deed", "ask", None), DEED) if choice % 2 == 0 else ()
            self.main(rows, (choice,), ("ask",), *rest, ("end", 0))
        self.main((("try", (("ask", 0),), (2,), 0, (TELL,)),), (1,), ("ask",), DEED, ("end", 0))


class Asides(Free):
    TOP = ("letters", (0,))

    def one(self, name, form, rows=(), test=ONE):
        return aside(name, form, TELLS, self.TOP, test, rows)

    def tell(self, asides, choices, *notes, pile=()):
        self.main((TELL, ("get", 0, 0)), choices, *notes, pile=pile, asides=asides)

    AFTER = (("deed", "get", 0), ("end", 0))

    def test_before(self):
        one = (self.one(4, "before", (("put", 0, ONE),)),)
        self.tell(one, (), ("body", -5), pile=(0,))
        self.tell(one, (0,), ("body", -5), ("deed", "put", 0), ("end", -5), DEED, *self.AFTER)
        self.tell(one, (1,), ("body", -5), ("end", 0))
        faulty = (self.one(4, "before", (("fault", 1),)),)
        self.tell(faulty, (0,), ("body", -5), ("end", -5), ("end", 0))

    def test_behind(self):
        one = (self.one(4, "behind", (("put", 0, ONE),)),)
        self.tell(one, (), DEED, ("body", -5), pile=(0,))
        self.tell(one, (0,), DEED, ("body", -5), ("deed", "put", 0), ("end", -5), *self.AFTER)
        self.tell(one, (1,), DEED, ("body", -5), ("end", 0))
        self.tell((self.one(4, "behind", (("fault", 1),)),), (0,), DEED, ("body", -5), ("end", -5), ("end", 0))

    def test_a_behind_and_faults_of_the_others(self):
        ask = (("ask", None),)
        for rows, end in (((), ()), ((("answer", ONE),), (DEED,))):
            one = (aside(4, "behind", ask, self.TOP, ONE, rows),)
            self.main((("ask", 0), TELL), (1, 0), ("ask",), ("body", -5), ("end", -5), *end, ("end", 0), asides=one)
            self.main((("ask", 0), TELL), (0, 0), ("ask",), ("deed", "ask", None), ("body", -5), ("end", -5), DEED, ("end", 0), asides=one)

    def test_around(self):
        self.tell((self.one(4, "around"),), (0,), ("body", -5), ("end", -5), *self.AFTER)
        self.tell((self.one(4, "around"),), (1,), ("body", -5), ("end", 0))
        self.tell((self.one(4, "around", (("fault", 1),)),), (0,), ("body", -5), ("end", -5), ("end", 0))
        self.tell((self.one(4, "around", (("on", 0, ()), ("on", 1, (ONE,)))),), (0,), ("body", -5), DEED, DEED, ("end", -5), *self.AFTER)

    def test_an_on_with_expressions(self):
        one = (self.one(4, "around", (("try", (("on", 0, (ONE, BOTH)),), (1,), 0, ()),)),)
        self.tell(one, (0, 0), ("body", -5), ("row", (0, 0, 0)), DEED, ("end", -5), *self.AFTER)
        self.tell(one, (0, 2), ("body", -5), ("row", (0, 0, 0)), ("end", -5), *self.AFTER)
        self.tell(one, (0, 1), ("body", -5), ("row", (0, 0, 0)), ("end", -5), ("end", 0))

    def test_an_on_of_an_ask(self):
        one = (aside(4, "around", (("ask", None),), EVERY, ONE, (("try", (("on", 0, ()),), (2,), 0, (TELL,)),)),)
        self.main((("ask", 0),), (0, 1), ("body", -5), ("ask",), DEED, ("end", -5), ("end", 0), asides=one)

    def test_tests(self):
        for form in ("before", "around"):
            one = (self.one(4, form, (("on", 0, ()),) if form == "around" else (), SLOT),)
            self.tell(one, (), ("test", 4), pile=(0,))
            self.tell(one, (1,), ("test", 4), ("body", -5), pile=(0,))
            for choice in range(0, 10, 2):
                self.tell(one, (choice,), ("test", 4), DEED, *self.AFTER)
            inner = (("end", -5), DEED) if form == "before" else (DEED, ("end", -5))
            for choice in range(1, 10, 2):
                self.tell(one, (choice, 0), ("test", 4), ("body", -5), *inner, *self.AFTER)
        one = (self.one(4, "behind", (), SLOT),)
        self.tell(one, (), DEED, ("test", 4), pile=(0,))
        self.tell(one, (0,), DEED, ("test", 4), *self.AFTER)
        self.tell(one, (1, 0), DEED, ("test", 4), ("body", -5), ("end", -5), *self.AFTER)

    def test_tests_by_a_number_and_with_faults(self):
        for form in ("before", "behind", "around"):
            self.tell((self.one(4, form, (), ("n", 0)),), (), DEED, *self.AFTER)
            ahead = (DEED,) if form == "behind" else ()
            self.tell((self.one(4, form, (), ("n", -1)),), (), *ahead, ("body", -5), pile=(0,))
            # A test has no choose of faults.
            self.tell((self.one(4, form, (), BOTH),), (), *ahead, ("test", 4), pile=(0,))

    def test_a_passed_behind_keeps_the_outcome(self):
        one = (aside(4, "behind", (("ask", None),), self.TOP, SLOT, (("answer", ONE),)),)
        self.main((("ask", 0), TELL), (1, 0), ("ask",), ("test", 4), ("end", 0), asides=one)
        self.main((("ask", 0), TELL), (1, 1, 0), ("ask",), ("test", 4), ("body", -5), ("end", -5), DEED, ("end", 0), asides=one)

    def test_several(self):
        first, second, third = self.one(1, "before", (), SLOT), self.one(2, "behind"), self.one(3, "around", (("on", 0, ()),) * 2)
        self.tell((first, second, third), (1, 0, 0, 0), ("test", 1), ("body", -2), ("end", -2), ("body", -4), DEED, DEED, ("end", -4),
                  ("body", -3), ("end", -3), *self.AFTER)
        self.tell((third, second, first), (0, 0, 0, 0, 1), ("body", -4), ("test", 1), DEED, ("body", -3), ("end", -3),
                  ("test", 1), DEED, ("body", -3), ("end", -4), ("end", 0))
        self.tell((second, first), (0, 1), ("test", 1), DEED, ("body", -3), ("end", 0))

    def test_fits_are_those_of_the_pile(self):
        log = aside(6, "before", (("call", 0),), EVERY, ONE, (TELL,))
        own = aside(2, "before", TELLS, ("row", (("letters", (1,)), ("letters", (-7,)))))
        self.main((CALL,), (0, 0, 0), ("body", -7), ("body", -3), ("end", -3), DEED, ("end", -7), ("body", 0), DEED, ("end", 0), ("end", 1),
                  asides=(log, own), ahead=((0, (TELL,)),))

    def test_piles_where_it_stops(self):
        log = aside(6, "before", (("call", 0),), EVERY, ONE, (("ask", 0),))
        self.main((CALL,), (0,), ("body", -7), ("ask",), pile=(1, -7), asides=(log,), ahead=((0, ()),))
        self.main((CALL,), (0, 0), ("body", -7), ("ask",), ("deed", "ask", None), ("end", -7), ("body", 0), pile=(1,), asides=(log,),
                  ahead=((0, ()),))

    def test_parts_of_more_than_sixty_four_states(self):
        one = (aside(0, "before", TELLS, ("row", (EVERY, ("letters", (0,))) + (("any",),) * 8)),)
        program = program_of((TELL, CALL))
        told = free_run(program, one, (0,) * 12)[0]
        self.assertEqual(told[:19], (("body", 0), DEED) * 8 + (("body", 0), ("body", -1), ("end", -1)))


class Compared(unittest.TestCase):
    def test_what_is_made(self):
        for seed in range(250):
            program, asides, _ = made(seed)
            source = random.Random(seed)
            for many in (0, 1, 5, 30):
                choices = tuple(source.choice((0, 0, 0, 1, 2, 3, 9)) for _ in range(many))
                oracle = FreeOracle(program, asides, choices)
                with self.subTest(seed=seed, choices=choices):
                    self.assertEqual(repr(free_run(program, asides, choices)), repr((tuple(oracle.notes), oracle.pile)))

    def test_the_same_again_and_nothing_changed(self):
        for seed in range(20):
            program, asides, _ = made(seed)
            handed = (program, asides, (0, 1, 0, 2, 0, 0, 1))
            kept, before = copy.deepcopy(handed), repr(handed)
            told = repr(free_run(*handed))
            self.assertEqual(repr(free_run(*kept)), told)
            self.assertEqual(repr(free_run(choices=handed[2], asides=asides, program=program)), told)
            self.assertEqual(repr(handed), before)


if __name__ == "__main__":
    unittest.main()
