"""What run_exchanged and run_handed tell: [J1] to [J4]."""

import copy
import random
import unittest

from asidewoven.classes import classes
from asidewoven.errors import AsideError, TooMany, Unfit
from asidewoven.exchange import run_exchanged, run_handed
from asidewoven.machine import run
from change_oracle import ChangeOracle
from making import LIVELY, NUMBERS, Making
from samples import ONE, REST
from test_nodes import CALL, EVERY, SLOT, TELL, TELLS, aside
from test_weaving import WINDOW, counting, few_calls


def program_of(*bodies, cells=()):
    return (cells, tuple((0, tuple(rows)) for rows in bodies))


def tell(number):
    return ("tell", ("n", number))


# The piles on top of which there is a function.
TOP = ("row", (EVERY, ("letters", tuple(range(12)))))


def loud(name, number, form="before", moments=(("call", 0),), part=TOP, test=ONE):
    """An aside that tells a number; it is not run at what asides tell."""
    return aside(name, form, moments, part, test, (tell(number),))


class Exchanged(unittest.TestCase):
    def told(self, program, asides, changes, inputs=(), steps=200, oracle=True):
        """What both runs tell, but for the numbers of copies, which are those of the classes."""
        handed = (program, asides, changes, inputs, steps)
        before = repr(handed)
        with self.subTest(program=program, asides=asides, changes=changes, inputs=inputs, steps=steps):
            told = run_exchanged(*handed)
            more = run_handed(*handed)
            self.assertEqual(repr(more[:4]), repr(told))
            self.assertEqual(len(more), 5)
            self.assertEqual(len(more[4]), told[3] + 1)
            if oracle:
                done = ChangeOracle(*handed)
                self.assertEqual(repr(told), repr(done.told()))
                copies = [len(classes(program, asides, ()))]
                for (further, listed), pile in zip(changes, done.piles):
                    copies.append(len(classes(further, listed, tuple(pile[:many + 1] for many in range(len(pile))))))
                self.assertEqual(repr(more[4]), repr(tuple(copies)))
            self.assertEqual(repr(handed), before)
        return told


class Fitting(Exchanged):
    PROGRAM = ((7, 8), ((0, (TELL,)), (2, ()), (0, (REST, CALL))))

    def unfit(self, changes, program=PROGRAM, asides=(), steps=9):
        for call in (run_exchanged, run_handed):
            with self.subTest(call=call.__name__, changes=changes):
                with self.assertRaises(AsideError) as caught:
                    call(program, asides, changes, (), steps)
                self.assertIs(caught.exception.__class__, Unfit)

    WRONG = (
        ((7,), PROGRAM[1]), ((), PROGRAM[1]), ((7, 8, 9), PROGRAM[1]), ((7, 8), PROGRAM[1][1:]), ((7, 8), PROGRAM[1][2:]), ((7, 8), PROGRAM[1][:2] + PROGRAM[1][:1] + PROGRAM[1][2:]),
        ((7, 8), ((1, (TELL,)),) + PROGRAM[1][1:]), ((7, 8), (PROGRAM[1][0], (1, ()), PROGRAM[1][2])), ((7, 8), (PROGRAM[1][1], PROGRAM[1][0], PROGRAM[1][2])),
    )

    def test_what_does_not_fit(self):
        right = (self.PROGRAM, ())
        for wrong in self.WRONG:
            for changes in (((wrong, ()),), ((wrong, ()), right), (right, (wrong, ())), (right,) * 39 + ((wrong, ()),), ((wrong, (loud(1, 2),)), (wrong, ()))):
                self.unfit(changes)
                # Whether it is come to or not.
                self.unfit(changes, steps=0)
                self.unfit(changes, ((7, 8), self.PROGRAM[1][:2] + ((0, ()),)))

    def test_ahead_of_all_else(self):
        window = (aside(5, "before", TELLS, WINDOW),)
        self.unfit(((self.WRONG[0], ()),), asides=window)
        self.unfit(((self.PROGRAM, window), (self.WRONG[0], ())))
        self.unfit(((self.PROGRAM, ()), (self.WRONG[0], window)))

    def test_what_fits(self):
        for cells, rows in (((0, 0), ()), ((8, 7), (TELL, TELL)), ((7, 8), (("fault", 3),))):
            fitting = (cells, ((0, rows), (2, rows), (0, (REST, CALL))))
            self.assertEqual(self.told(self.PROGRAM, (), ((fitting, ()),))[3], 1)


class Changes(Exchanged):
    G = (TELL,)
    PAUSED = program_of(G, (CALL, REST, CALL))

    def test_none(self):
        for asides in ((), (loud(1, 8),), (loud(1, 8, "behind"), loud(2, 9, "around"))):
            for steps in (0, 1, 2, 5, 50):
                told = self.told(self.PAUSED, asides, (), (), steps)
                self.assertEqual(told, run(self.PAUSED, asides, (), steps) + (0,))

    def test_changes_that_are_never_done(self):
        program = program_of(self.G, (CALL, CALL))
        told = self.told(program, (), ((program, (loud(1, 8),)),) * 3)
        self.assertEqual(told, run(program, (), (), 200) + (0,))

    def test_one(self):
        self.assertEqual(self.told(self.PAUSED, (), ((self.PAUSED, (loud(1, 8),)),))[0], (("tell", 1), ("tell", 8), ("tell", 1)))
        self.assertEqual(self.told(self.PAUSED, (loud(1, 8),), ((self.PAUSED, ()),))[0], (("tell", 8), ("tell", 1), ("tell", 1)))
        other = program_of((tell(5),), self.PAUSED[1][1][1])
        self.assertEqual(self.told(self.PAUSED, (loud(1, 8),), ((other, (loud(2, 9),)),))[0], (("tell", 8), ("tell", 1), ("tell", 9), ("tell", 5)))

    def test_at_most_one_at_each_rest_row(self):
        many = program_of(self.G, (CALL,) + (REST, CALL) * 4)
        changes = tuple((program_of((tell(number),), many[1][1][1]), ()) for number in range(2, 8))
        for length in range(7):
            told = self.told(many, (), changes[:length])
            self.assertEqual(told[0], tuple(("tell", min(number, length + 1)) for number in range(1, 6)))
            self.assertEqual(told[3], min(length, 4))
        two = program_of(self.G, (CALL, REST, REST, CALL))
        changes = tuple((program_of(change[0][1][0][1], two[1][1][1]), ()) for change in changes)
        self.assertEqual(self.told(two, (), changes)[0], (("tell", 1), ("tell", 3)))

    def test_forty(self):
        # The main function has its rest row in a function that is called again and again.
        program = program_of((REST,), (tell(0),), (CALL, ("call", 1, 1, ())) * 45)
        changes = tuple((program_of((REST,), (tell(number + 1),), program[1][2][1]), ()) for number in range(40))
        told = self.told(program, (), changes, (), 500)
        self.assertEqual(told[0], tuple(("tell", min(number + 1, 40)) for number in range(45)))
        self.assertEqual(told[3], 40)

    def test_steps_just_enough(self):
        # CALL, TELL, REST, CALL, TELL: the rest row is the third one.
        changes = ((program_of((tell(2),), self.PAUSED[1][1][1]), ()),)
        for steps, events, changed in ((0, 0, 0), (1, 0, 0), (2, 1, 0), (3, 1, 1), (4, 1, 1), (5, 2, 1), (6, 2, 1)):
            told = self.told(self.PAUSED, (), changes, (), steps)
            self.assertEqual((len(told[0]), told[3], told[2]), (events, changed, min(steps, 5)))

    def test_the_cells_of_a_change_are_not_used(self):
        rows = (("put", 0, ("n", 5)), REST, ("get", 0, 0), TELL, ("tell", ("v", 0)), ("get", 1, 1), ("tell", ("v", 1)))
        program = program_of(rows, cells=(3, 4))
        told = self.told(program, (), ((program_of(rows, cells=(9, 9)), ()),))
        self.assertEqual(told[0], (("tell", 1), ("tell", 5), ("tell", 4)))
        self.assertEqual(told[3], 1)

    def test_slots_and_the_rows_behind(self):
        inner = (("set", 1, ("n", 6)), REST, ("tell", ("v", 1)), ("answer", ("plus", ("v", 1), ONE)))
        main = (("set", 3, ("n", 9)), ("call", 2, 0, ()), ("tell", ("v", 2)), ("tell", ("v", 3)))
        program = program_of(inner, main)
        told = self.told(program, (), ((program, (loud(1, 8, "behind", TELLS, ("row", (EVERY, ("letters", (1,))))),)),))
        self.assertEqual(told[0], (("tell", 6), ("tell", 7), ("tell", 8), ("tell", 9), ("tell", 8)))

    def test_inputs_go_on(self):
        program = program_of((("ask", 0), ("tell", SLOT)), (CALL, REST, CALL))
        told = self.told(program, (), ((program, (aside(1, "before", (("call", 0),), EVERY, ONE, (("ask", 0), ("tell", SLOT))),)),), (4, 5, 6))
        self.assertEqual(told[0], (("tell", 4), ("tell", 5), ("tell", 6)))

    def test_later_fits_see_the_functions_called_before(self):
        # The pile has 1 from before the change, and the new aside asks for it.
        below = ("row", (EVERY, ("letters", (1,)), ("letters", (0,))))
        program = program_of(self.G, (REST, CALL), (("call", 0, 1, ()), CALL))
        told = self.told(program, (), ((program, (loud(1, 8, "before", TELLS, below),)),))
        self.assertEqual(told[0], (("tell", 8), ("tell", 1), ("tell", 1)))

    def test_tries_and_ifs_that_are_open(self):
        for kind in (4, 5):
            inner = (("try", (("if", ONE, (REST, CALL, ("fault", kind)), ()),), (4,), 2, (("tell", ("v", 2)), CALL)), tell(7))
            program = program_of(self.G, (("try", inner, (5,), 1, (("tell", ("v", 1)),)), tell(9)))
            told = self.told(program, (), ((program_of((tell(3),), program[1][1][1]), (loud(1, 8),)),))
            self.assertEqual(told[0][:2], (("tell", 8), ("tell", 3)))
            self.assertEqual(told[0][-1], ("tell", 9))
            self.assertEqual(told[3], 1)

    def test_at_any_depth_within_rows(self):
        for which in range(16):
            row = REST
            for level in range(4):
                second = which >> level & 1
                row = ("if", ("n", 0 if second else 1), () if second else (row, tell(level)), (row, tell(level)) if second else ())
            program = program_of(self.G, (row, CALL))
            told = self.told(program, (), ((program_of((tell(30),), program[1][1][1]), ()),))
            self.assertEqual(told[0], tuple(("tell", number) for number in (0, 1, 2, 3, 30)))
        row = REST
        for level in range(4):
            row = ("try", (("fault", 4),), (4,), level, (row, tell(level)))
        program = program_of(self.G, (row, CALL))
        self.assertEqual(self.told(program, (), ((program_of((tell(30),), program[1][1][1]), ()),))[0][-1], ("tell", 30))

    def test_functions_that_call_themselves(self):
        # 0 counts down, and has a rest row on its way up.
        rows = (("if", SLOT, (("call", 1, 0, (("less", SLOT, ONE),)), REST, ("tell", SLOT)), ()),)
        program = ((), ((1, rows), (0, (("call", 0, 0, (("n", 5),)), ("call", 0, 0, (("n", 1),))))))
        up = ("star", ("row", (("any",), ("any",))))
        changes = tuple((program, (loud(name, 10 + name, "behind", TELLS, up),)) for name in range(3))
        told = self.told(program, (), changes)
        self.assertEqual(told[3], 3)
        self.assertEqual([number for _, number in told[0] if number < 10], [1, 2, 3, 4, 5, 1])

    def test_sixty_bodies(self):
        rows = (("if", SLOT, (("try", (("call", 1, 0, (("less", SLOT, ONE),)), ("tell", SLOT)), (9,), 1, ()),), (REST,)),)
        for depth, end in ((56, ("answer", 0)), (57, ("answer", 0)), (58, ("answer", 0)), (59, ("fault", 3)), (60, ("fault", 3))):
            program = ((), ((1, rows), (0, (("call", 0, 0, (("n", depth),)),))))
            changes = ((program, (loud(1, 77, "before", TELLS, ("row", (("any",),) * 3)),)),)
            with few_calls():
                told = self.told(program, (), changes, (), 5000, oracle=False)
            self.assertEqual((told[1], told[3]), (end, 1 if depth <= 58 else 0))
            if depth <= 58:
                self.assertEqual(sorted(number for _, number in told[0]), sorted(list(range(1, depth + 1)) + [77]))

    def test_five_thousand_steps(self):
        rows = (REST,) * 100
        program = ((), ((0, rows), (0, (CALL,) * 19 + (REST,))))
        loop = ((), ((0, rows), (0, (("call", 0, 0, ()), ("try", (("call", 0, 1, ()),), (3,), 1, ())))))
        changes = tuple((loop, (loud(number % 7, number, "before", TELLS),)) for number in range(40))
        told = self.told(loop, (), changes, (), 5000, oracle=False)
        self.assertEqual(told[1:], (("bound",), 5000, 40))
        self.assertEqual(self.told(program, (), (), (), 5000, oracle=False)[2], 20 + 19 * 100)


class Waiting(Exchanged):
    G = (TELL,)
    PAUSED = program_of(G, (CALL, REST, CALL))
    CHANGE = ((PAUSED, (loud(9, 99),)),)

    def test_letters_of_asides_on_the_pile(self):
        for form in ("before", "behind", "around"):
            # Its rest row is ahead of that of the main function.
            asides = (aside(4, form, (("call", 0),), EVERY, ONE, (REST, ("on", 0, ())) if form == "around" else (REST,)),)
            told = self.told(self.PAUSED, asides, self.CHANGE)
            self.assertEqual((told[0], told[3]), ((("tell", 1), ("tell", 99), ("tell", 1)), 1))
            # With no other one it is not done.
            told = self.told(program_of(self.G, (CALL, CALL)), asides, ((program_of(self.G, (CALL, CALL)), ()),))
            self.assertEqual(told[3], 0)

    def test_rest_rows_in_what_asides_call(self):
        program = program_of(self.G, (REST,), (("call", 0, 0, ()), ("call", 0, 1, ()), CALL))
        asides = (aside(4, "before", (("call", 0),), EVERY, ONE, (("call", 0, 1, ()),)),)
        told = self.told(program, asides, ((program, (loud(9, 99),)),))
        self.assertEqual(told[0], (("tell", 1), ("tell", 99), ("tell", 1)))

    def test_rest_rows_behind_an_on(self):
        # The function's own rest row is run by the on: the aside is on the pile there.
        program = program_of((REST, TELL), (CALL, CALL, REST, CALL))
        asides = (aside(4, "around", (("call", 0),), EVERY, ONE, (("on", 0, ()),)),)
        told = self.told(program, asides, ((program, (loud(9, 99),)),))
        self.assertEqual(told[0], (("tell", 1), ("tell", 1), ("tell", 99), ("tell", 1)))

    def test_behind_asides_that_are_still_to_come(self):
        # 0 has a rest row and tells: the behind aside of its call is still to come there.
        program = program_of((REST, TELL), (CALL, REST, CALL))
        for test, events in ((ONE, (1, 5, 99, 1)), (("v", 0), (1, 99, 1)), (("part", ONE, ("n", 0)), (1, 99, 1)), (("same", ONE, ("n", 2)), (1, 99, 1)), (("n", -1), (1, 5, 99, 1))):
            told = self.told(program, (loud(4, 5, "behind", test=test),), ((program, (loud(9, 99),)),))
            self.assertEqual(told[0], tuple(("tell", number) for number in events))
        # One with the test ("n", 0) does not count, nor does one that is not of this moment, or whose part has not the pile.
        for quiet in (loud(4, 5, "behind", test=("n", 0)), loud(4, 5, "behind", TELLS, ("none",)), loud(4, 5, "behind", (("call", 1),)), loud(4, 5, "behind", part=("row", (EVERY, ("letters", (0,))))),
                      loud(4, 5, "before", test=("n", 0)), loud(4, 5, "around", test=("v", 0))):
            told = self.told(program, (quiet,), ((program, (loud(9, 99),)),))
            self.assertEqual(told[0], (("tell", 1), ("tell", 99), ("tell", 1)))

    def test_behind_asides_further_down(self):
        # The moment of the outer call has not ended when 0 is called by 1.
        program = program_of((REST, TELL), (CALL,), (("call", 0, 1, ()), CALL, CALL))
        for moments, events in (((("call", 1),), (1, 5, 1, 99, 1)), ((("call", 0),), (1, 5, 1, 5, 1, 5)), ((("call", None),), (1, 5, 5, 1, 5, 1, 5))):
            told = self.told(program, (loud(4, 5, "behind", moments),), ((program, (loud(9, 99),)),))
            self.assertEqual(told[0], tuple(("tell", number) for number in events))

    def test_behind_asides_of_other_rests_are_forgotten(self):
        # With the test ("n", 0) they are still there when the asides are exchanged; in their place there are others then.
        program = program_of((REST, TELL), (CALL, TELL, CALL))
        quiet = (loud(4, 5, "behind", test=("n", 0)), loud(3, 6, "behind", test=("n", 0)))
        for others in ((), (loud(1, 7, "behind"),), (loud(1, 7, "behind"), loud(2, 8, "before"), loud(3, 9, "around")), (loud(2, 8, "before", TELLS),)):
            told = self.told(program, quiet, ((program, others),))
            self.assertEqual(told[3], 1)
            self.assertEqual(told[0][0], ("tell", 1) if not others or others[0][2] != TELLS else ("tell", 8))

    def test_functions_on_the_pile_with_other_rows(self):
        program = program_of((REST, TELL), (CALL, REST, CALL))
        # 0 has other rows in the change: it waits in 0, and is done in the main function.
        told = self.told(program, (), ((program_of((tell(2),), program[1][1][1]), ()),))
        self.assertEqual((told[0], told[3]), ((("tell", 1), ("tell", 2)), 1))
        # The main function has other rows: it is never done.
        told = self.told(program, (), ((program_of(program[1][0][1], (CALL, REST, CALL, CALL)), ()),))
        self.assertEqual((told[0], told[3]), ((("tell", 1), ("tell", 1)), 0))
        # Other rows of one that is not on the pile are no reason.
        three = program_of((REST, TELL), (TELL,), (CALL, ("call", 0, 1, ())))
        told = self.told(three, (), ((program_of((REST, TELL), (tell(2),), three[1][2][1]), ()),))
        self.assertEqual((told[0], told[3]), ((("tell", 1), ("tell", 2)), 1))

    def test_the_program_so_far_counts(self):
        # The second change has the rows of the first one, not those of the program of the run.
        program = program_of((REST, TELL), (REST, CALL, CALL))
        first = program_of((REST, tell(2)), program[1][1][1])
        third = program_of((REST, tell(2)), program[1][1][1])
        told = self.told(program, (), ((first, ()), (third, (loud(1, 8, "before", TELLS),))))
        self.assertEqual((told[0], told[3]), ((("tell", 8), ("tell", 2), ("tell", 8), ("tell", 2)), 2))
        told = self.told(program, (), ((first, ()), (program, ())))
        self.assertEqual((told[0], told[3]), ((("tell", 2), ("tell", 2)), 1))

    def test_all_behind_a_change_wait_too(self):
        program = program_of((REST, TELL), (CALL, REST, CALL))
        never = (program_of(program[1][0][1], (CALL, REST, CALL, CALL)), ())
        told = self.told(program, (), (never, (program, (loud(9, 99),))))
        self.assertEqual((told[0], told[3]), ((("tell", 1), ("tell", 1)), 0))
        waits = (program_of((REST, tell(2)), program[1][1][1]), ())
        told = self.told(program, (), (waits, (waits[0], (loud(9, 99),))))
        self.assertEqual((told[0], told[3]), ((("tell", 1), ("tell", 2)), 2))
        again = program_of((REST, TELL), (CALL, REST, CALL, CALL))
        waits = (program_of((REST, tell(2)), again[1][1][1]), ())
        told = self.told(again, (), (waits, (waits[0], (loud(9, 99),))))
        self.assertEqual((told[0], told[3]), ((("tell", 1), ("tell", 2), ("tell", 99), ("tell", 2)), 2))

    def test_two_reasons_at_once(self):
        # In 0 a behind aside is still to come, and 0 has other rows; in 1 its rows are over, but not the aside.
        program = program_of((REST, TELL), (CALL, REST), (("call", 0, 1, ()), REST, CALL, ("call", 0, 1, ())))
        other = program_of((REST, tell(2)), (CALL, REST), program[1][2][1])
        for asides, events in (((loud(4, 5, "behind", (("call", 1),)),), (1, 5, 2, 2)), ((loud(4, 5, "behind"),), (1, 5, 2, 2)), ((loud(4, 5, "around", (("call", 1),)),), (5, 2, 2))):
            told = self.told(program, asides, ((other, ()),))
            self.assertEqual((told[0], told[3]), (tuple(("tell", number) for number in events), 1))
        told = self.told(program, (aside(4, "around", (("call", 1),), EVERY, ONE, (REST, ("on", 0, ()), REST)),), ((other, ()),))
        self.assertEqual((told[0], told[3]), ((("tell", 1), ("tell", 2), ("tell", 2)), 1))


class Handed(Exchanged):
    def test_numbers_of_copies(self):
        g = (TELL,)
        paused = program_of(g, (CALL, REST, CALL))
        noted = loud(3, 8)
        self.assertEqual(run_handed(paused, (), (), (), 9)[4], (2,))
        self.assertEqual(run_handed(paused, (), ((paused, (noted,)),), (), 20)[4], (2, 3))
        self.assertEqual(run_handed(paused, (noted,), ((paused, ()), (paused, (noted,))), (), 20)[4], (3, 2))
        # The weaving of a change has no more copies than the classes for its begins: the open nodes count.
        below = ("row", (EVERY, ("letters", (1,)), ("letters", (0,))))
        program = program_of((TELL,), (REST, CALL), (("call", 0, 1, ()), CALL))
        told = run_handed(program, (), ((program, (loud(1, 8, "before", TELLS, below),)),), (), 99)
        self.assertEqual(told[4], (3, len(classes(program, (loud(1, 8, "before", TELLS, below),), ((2,), (2, 1))))))

    def test_the_same_change_twice(self):
        program = program_of((TELL, REST), (CALL, REST, CALL))
        change = (program, (loud(1, 8, "before", TELLS),))
        told = self.told(program, (), (change, change))
        self.assertEqual(told[3], 2)
        self.assertEqual(run_handed(program, (), (change, change), (), 99)[4][1:], (len(classes(*change, ((1,), (1, 0)))), len(classes(*change, ((1,),)))))

    def raised(self, limit, *handed):
        with self.assertRaises(TooMany) as caught:
            run_handed(*handed)
        self.assertEqual(caught.exception.limit, limit)
        run_exchanged(*handed)

    def test_too_many(self):
        window = (aside(5, "before", TELLS, WINDOW),)
        g = (TELL,)
        paused = program_of(g, (CALL, REST, CALL))
        never = program_of(g, (CALL, CALL))
        self.raised(64, paused, window, (), (), 0)
        self.raised(64, paused, (), ((paused, window),), (), 9)
        # Only if it is done.
        for changes, steps in ((((paused, window),), 2), (((paused, window),), 0)):
            self.assertEqual(run_handed(paused, (), changes, (), steps)[3:], (0, (2,)))
        self.raised(64, paused, (), ((paused, window),), (), 3)
        self.assertEqual(run_handed(never, (), ((never, window),), (), 9)[3:], (0, (2,)))
        self.assertEqual(run_handed(paused, (), ((paused, ()), (paused, window)), (), 9)[3:], (1, (2, 2)))
        loop = ((), ((0, (CALL,)), (0, (REST, CALL))))
        self.raised(2000, loop, (), ((loop, counting(14, 13, 11)),), (), 9)
        self.assertEqual(run_handed(loop, (), ((loop, counting(14, 13)),), (), 9)[3], 1)

    def test_too_many_for_the_begins_alone(self):
        # 0 calls itself; it is come to from the open node of 1 alone, whose rows are all runnable.
        program = program_of((CALL,), (REST, ("if", ONE, (), (CALL,))), (("call", 0, 1, ()),))
        self.assertEqual(self.told(program, (), ((program, ()),))[3], 1)
        many = counting(14, 13, 11)
        self.assertEqual(run_handed(program, many, (), (), 9)[4], (2,))
        self.raised(2000, program, many, ((program, many),), (), 9)


class Made(Exchanged):
    def made(self, seed):
        source = random.Random(seed)
        making = Making(source, source.choice((0, 2)), source.choice(((0, 0, 0), (2, 1, 0), (1, 0, 2, 0))), LIVELY + ("rest",) * source.choice((2, 5)))
        program = making.program(source.choice((1, 2)))
        asides = making.asides(program, source.randint(0, 3), source.random() < 0.8)
        changes, last = [], program
        for _ in range(source.randint(1, 5)):
            made = making.program(1)
            last = (made[0], tuple(last[1][f] if source.random() < 0.75 else made[1][f] for f in range(len(made[1]))))
            changes.append((last, making.asides(last, source.randint(0, 3), source.random() < 0.8)))
        return program, asides, tuple(changes), tuple(source.choice(NUMBERS) for _ in range(source.randint(0, 5)))

    def test_made(self):
        changed = {}
        for seed in range(250):
            program, asides, changes, inputs = self.made(seed)
            for steps in (4, 60):
                told = self.told(program, asides, changes, inputs, steps)
                changed[told[3]] = changed.get(told[3], 0) + 1
        self.assertGreater(min(changed.get(number, 0) for number in (0, 1, 2, 3)), 3, changed)

    def test_the_same_again_and_by_name(self):
        for seed in range(20):
            program, asides, changes, inputs = self.made(seed)
            handed = dict(program=program, asides=asides, changes=changes, inputs=inputs, steps=40)
            kept, before = copy.deepcopy(handed), repr(handed)
            for call in (run_exchanged, run_handed):
                told = repr(call(*handed.values()))
                self.assertEqual(repr(call(**dict(reversed(list(handed.items()))))), told)
                self.assertEqual(repr(call(*kept.values())), told)
            self.assertEqual(repr(handed), before)


if __name__ == "__main__":
    unittest.main()
