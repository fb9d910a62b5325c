"""What benches are, and what their edits do: [L1] to [L3]."""

import copy
import random
import unittest

from asidewoven import errors
from asidewoven.benches import Bench
from asidewoven.errors import (
    AsideError, BadAside, BadBatch, BadProgram, NothingToRedo, NothingToUndo, NoVersion, Rejected, TooMany, TooManyEdits, Unfit,
)
from asidewoven.machine import run
from asidewoven.programs import asides_error, program_error, rows_of
from asidewoven.weaving import weave
from making import Making
from samples import NEVER, NO_INTEGERS, NO_TUPLES, ONE, REST, WRONG_EXPRESSIONS, WRONG_ROWS, with_item
from test_nodes import CALL, EVERY, SLOT, TELL, TELLS, aside
from test_weaving import WINDOW, counting

PROGRAM = ((7,), ((1, (TELL, ("if", SLOT, (("get", 0, 0), ("try", (TELL,), (3,), 1, (REST,))), (TELL, REST)))), (0, (("call", 0, 0, (ONE,)), ("answer", ONE)))))
LOUD = aside(7, "before", TELLS, ("row", (EVERY, ("letters", (0, 1)))), ONE, (("tell", ("n", 8)),))
QUIET = aside(3, "behind", (("call", None),), EVERY, SLOT, (REST,))
AROUND = aside(5, "around", (("get", None),), EVERY, ONE, (("on", 0, ()),))


def state_of(bench):
    """All that a bench tells of itself."""
    return repr((bench.program, bench.asides, bench.version, [bench.at(version) for version in range(bench.version + 1)], len(bench), list(bench)))


class Benches(unittest.TestCase):
    def bench(self, *asides, program=PROGRAM):
        return Bench(program, asides)

    def refuse(self, bench, error, call, *handed):
        """The call raises this error, and the bench is as it was, what was taken back too."""
        before, kept, twin = state_of(bench), repr(handed), bench.copy()
        with self.subTest(call=call, handed=repr(handed)[:200]):
            with self.assertRaises(AsideError) as caught:
                getattr(bench, call)(*handed)
            self.assertIs(caught.exception.__class__, error.__class__)
            self.assertEqual(repr(vars(caught.exception)), repr(vars(error)))
            self.assertEqual(state_of(bench), before)
            self.assertEqual(repr(handed), kept)
            self.same_redos(bench.copy(), twin)

    def same_redos(self, bench, other):
        while True:
            try:
                bench.redo()
            except NothingToRedo:
                break
            other.redo()
            self.assertEqual(state_of(bench), state_of(other))
        with self.assertRaises(NothingToRedo):
            other.redo()


class NewBenches(Benches):
    def test_what_is_no_program(self):
        for value in NO_TUPLES + NEVER + ((), (1, 2), ((), ()), ((7,), ((1, ()),)), ((), ((0, (("on", 0, ()),)),)), (PROGRAM[0], list(PROGRAM[1])), ((), ((0, (REST,) * 121),)), PROGRAM + ((),)):
            for asides in ((), None, (LOUD,)):
                with self.assertRaises(BadProgram) as caught:
                    Bench(value, asides)
                self.assertEqual(repr(caught.exception.error), repr(program_error(value)))
                self.assertIsNotNone(caught.exception.error)

    def test_what_are_no_asides(self):
        for value, place, word in (
            (None, None, "form"), ([LOUD], None, "form"), (LOUD, 0, "aside"), ((None,), 0, "aside"), ((LOUD, QUIET, LOUD), 2, "name"), ((LOUD, with_item(QUIET, 4, 0)), 1, "test"),
            ((LOUD, with_item(QUIET, 2, (("call", 2),))), 1, "moments"), ((with_item(LOUD, 3, ()),), 0, "part"), ((with_item(LOUD, 5, (("on", 0, ()),)),), 0, "rows"),
            (tuple(with_item(LOUD, 0, name) for name in range(11)), None, "form"), (True, None, "form"), ({}, None, "form"), ("", None, "form"),
        ):
            with self.subTest(value=repr(value)[:200]):
                with self.assertRaises(BadAside) as caught:
                    Bench(PROGRAM, value)
                self.assertEqual(repr((caught.exception.place, caught.exception.error)), repr((place, word)))

    def test_by_name(self):
        bench = Bench(asides=(LOUD,), program=PROGRAM)
        self.assertEqual((bench.program, bench.asides, bench.version), (PROGRAM, (LOUD,), 0))

    def test_ten_asides(self):
        asides = tuple(with_item(LOUD, 0, name) for name in range(10))
        self.assertEqual(len(Bench(PROGRAM, asides)), 10)


class Properties(Benches):
    def test_what_they_tell(self):
        bench = self.bench(LOUD, QUIET)
        self.assertEqual(repr((bench.program, bench.asides, bench.version)), repr((PROGRAM, (LOUD, QUIET), 0)))
        bench.out(0)
        self.assertEqual(repr((bench.program, bench.asides, bench.version)), repr((PROGRAM, (QUIET,), 1)))
        bench.row(0, (0,), REST)
        self.assertEqual(repr((bench.program[1][0][1][0], bench.asides, bench.version)), repr((REST, (QUIET,), 2)))
        bench.undo()
        self.assertEqual(repr((bench.program, bench.version)), repr((PROGRAM, 1)))

    def test_they_can_only_be_read(self):
        bench = self.bench(LOUD)
        before = state_of(bench)
        for name in ("program", "asides", "version"):
            with self.assertRaises(AttributeError):
                setattr(bench, name, getattr(bench, name))
            with self.assertRaises(AttributeError):
                delattr(bench, name)
        self.assertEqual(state_of(bench), before)

    def test_len_and_items(self):
        bench = self.bench()
        self.assertEqual(repr((len(bench), list(bench))), repr((0, [])))
        bench = self.bench(LOUD, QUIET, AROUND)
        self.assertEqual(repr((len(bench), [bench[0], bench[1], bench[2]])), repr((3, [LOUD, QUIET, AROUND])))
        for place in NO_INTEGERS + (-1, 3, -3, 10 ** 30, slice(0, 1), slice(None), (0,), [0], None):
            with self.subTest(place=place):
                with self.assertRaises(AsideError) as caught:
                    bench[place]
                self.assertIs(caught.exception.__class__, Unfit)
        with self.assertRaises(Unfit):
            self.bench()[0]

    def test_iterating(self):
        bench = self.bench(LOUD, QUIET)
        self.assertEqual(list(bench), [LOUD, QUIET])
        self.assertEqual([one for one in bench], [LOUD, QUIET])
        self.assertEqual(tuple(bench), bench.asides)
        first, second = bench
        self.assertEqual((first, second), (LOUD, QUIET))
        self.assertIn(LOUD, bench)
        self.assertNotIn(AROUND, bench)
        # It yields the asides that are there when it begins, whatever is done meanwhile.
        seen = []
        for one in bench:
            seen.append(one)
            bench.put(0, with_item(AROUND, 0, 20 + len(seen)))
            if len(seen) == 1:
                bench.out(len(bench) - 1)
        self.assertEqual(seen, [LOUD, QUIET])
        self.assertEqual(len(bench), 3)
        told = iter(bench)
        bench.out(0)
        bench.out(0)
        self.assertEqual(len(list(told)), 3)
        self.assertEqual(list(iter(bench)), list(bench))

    def test_told(self):
        bench = self.bench(LOUD, AROUND)
        for inputs, steps in (((), 0), ((), 3), ((), 5000), ((1, -5), 99), ((10 ** 18, -(10 ** 18)) * 100, 50)):
            self.assertEqual(repr(bench.told(inputs, steps)), repr(run(PROGRAM, (LOUD, AROUND), inputs, steps)))
            self.assertEqual(repr(bench.told(steps=steps, inputs=inputs)), repr(run(PROGRAM, (LOUD, AROUND), inputs, steps)))
        self.assertEqual(bench.version, 0)

    def test_told_of_other_values(self):
        bench = self.bench(LOUD)
        for inputs in NO_TUPLES + ((None,), (True,), (0, False), ("1",), (1, (2,)), (10 ** 18 + 1,), (-(10 ** 18) - 1,), ([],), (0,) * 201, [1], ({},)):
            self.refuse(bench, Unfit(), "told", inputs, 9)
            self.refuse(bench, Unfit(), "told", inputs, None)
        for steps in NO_INTEGERS + (-1, 5001, 10 ** 30, -(10 ** 30)):
            self.refuse(bench, Unfit(), "told", (), steps)
        bench.told((0,) * 200, 5000)

    def test_woven(self):
        for asides in ((), (LOUD,), (LOUD, AROUND, QUIET)):
            bench = self.bench(*asides)
            for _ in range(2):
                self.assertEqual(repr(bench.woven()), repr(weave(PROGRAM, asides, ())))
            self.assertEqual(bench.version, 0)
        self.refuse(self.bench(aside(2, "before", TELLS, WINDOW)), TooMany(64), "woven")
        self.refuse(Bench(((), ((0, (CALL,)),)), counting(14, 13, 11)), TooMany(2000), "woven")

    def test_equality(self):
        bench = self.bench(LOUD)
        for other, same in ((self.bench(LOUD), True), (self.bench(), False), (self.bench(QUIET), False), (self.bench(LOUD, QUIET), False), (Bench(((7,), PROGRAM[1][:1] + ((0, ()),)), (LOUD,)), False),
                            (bench, True), (bench.copy(), True)):
            self.assertIs(bench == other, same)
            self.assertIs(other == bench, same)
            self.assertIs(bench != other, not same)
            self.assertIs(other != bench, not same)
        # Edits and what was taken back are not asked.
        bench.put(0, QUIET)
        bench.out(0)
        bench.put(0, AROUND)
        bench.undo()
        self.assertIs(bench == self.bench(LOUD), True)
        self.assertIs(bench != self.bench(LOUD), False)

    def test_equality_with_other_values(self):
        bench = self.bench(LOUD)

        class Any:
            def __eq__(self, other):
                return True

            def __ne__(self, other):
                return False

        for other in NEVER + NO_INTEGERS + NO_TUPLES + ((PROGRAM, (LOUD,)), PROGRAM, (LOUD,), [LOUD], Bench, AsideError(), Any()):
            self.assertIs(bench == other, False)
            self.assertIs(bench != other, True)
        self.assertIs(bench.__eq__((PROGRAM, (LOUD,))), False)
        self.assertIs((PROGRAM, (LOUD,)) == bench, False)
        self.assertIs((PROGRAM, (LOUD,)) != bench, True)

    def test_methods_are_those_of_the_class_itself(self):
        for name in ("__init__", "__len__", "__getitem__", "__iter__", "__eq__", "__ne__", "program", "asides", "version", "told", "woven", "row", "put", "out", "swap", "batch", "undo", "redo",
                     "at", "copy", "attempt"):
            self.assertIn(name, vars(Bench))


class Rows(Benches):
    PLACES = [place for place, _ in rows_of(PROGRAM[1][0][1])]

    def test_each_place(self):
        self.assertEqual(self.PLACES, [(0,), (1,), (1, 0, 0), (1, 0, 1), (1, 0, 1, 0, 0), (1, 0, 1, 1, 0), (1, 1, 0), (1, 1, 1)])
        new = ("set", 4, ("n", 99))
        for place in self.PLACES:
            bench = self.bench(LOUD)
            self.assertEqual(bench.row(0, place, new), 1)
            told = dict(rows_of(bench.program[1][0][1]))
            self.assertEqual(told[place], new)
            inner = [further for further in self.PLACES if further[:len(place)] == place and further != place]
            self.assertEqual(sorted(told), [further for further in self.PLACES if further not in inner])
            for further, row in rows_of(PROGRAM[1][0][1]):
                if further not in inner and place[:len(further)] != further:
                    self.assertEqual(told[further], row)
            self.assertEqual(bench.program[0], PROGRAM[0])
            self.assertEqual(bench.program[1][1], PROGRAM[1][1])
            self.assertEqual(bench.asides, (LOUD,))

    def test_ifs_and_tries_keep_what_else_they_have(self):
        bench = self.bench()
        bench.row(0, (1, 0, 1, 1, 0), TELL)
        self.assertEqual(bench.program[1][0][1][1], ("if", SLOT, (("get", 0, 0), ("try", (TELL,), (3,), 1, (TELL,))), (TELL, REST)))
        bench.row(0, (1, 1, 1), ("fault", 2))
        self.assertEqual(bench.program[1][0][1][1], ("if", SLOT, (("get", 0, 0), ("try", (TELL,), (3,), 1, (TELL,))), (TELL, ("fault", 2))))

    def test_rows_with_rows_in_them(self):
        new = ("try", (("if", ONE, (REST,), ()),), (), 0, (TELL, TELL))
        for f, place in ((0, (0,)), (0, (1,)), (0, (1, 1, 0)), (1, (1,))):
            bench = self.bench()
            bench.row(f, place, new)
            self.assertEqual(dict(rows_of(bench.program[1][f][1]))[place], new)

    def test_the_main_function_and_by_name(self):
        bench = self.bench()
        self.assertEqual(bench.row(row=("answer", ("n", 5)), place=(1,), f=1), 1)
        self.assertEqual(bench.told((), 99)[1], ("answer", 5))
        self.assertEqual(bench.row(1, (1,), ("answer", ("n", 5))), 2)

    def test_functions_that_are_none(self):
        bench = self.bench(LOUD)
        for f in NO_INTEGERS + (-1, 2, 10 ** 30):
            self.refuse(bench, Unfit(), "row", f, (0,), REST)
            self.refuse(bench, Unfit(), "row", f, None, None)
        self.refuse(bench, Unfit(), "row", True, (0,), REST)
        self.refuse(bench, Unfit(), "row", False, (0,), REST)

    def test_places_that_are_none(self):
        bench = self.bench(LOUD)
        for place in NO_TUPLES + ((), (2,), (-1,), (0, 0, 0), (1, 0), (1, 0, 2), (1, 2, 0), (1, 0, 1, 0, 1), (1, -1, 0), [0], (True,), (False,), (1, 0, True), (1, False, 0), (None,), ("0",), ((0,),), ([],), (10 ** 30,), (0, 0)):
            self.refuse(bench, Unfit(), "row", 0, place, REST)
            self.refuse(bench, Unfit(), "row", 0, place, None)
        self.refuse(bench, Unfit(), "row", 1, (1, 0, 0), REST)

    def test_rows_that_are_none(self):
        bench = self.bench(LOUD)
        for row in NO_TUPLES + NEVER + (("on", 0, ()), ("get", 0, 1), ("call", 0, 2, ()), ("call", 0, 0, ()), ("tell",), ("tell", 5), REST + (0,), ("if", ONE, (), [REST])):
            for place in ((0,), (1,), (1, 0, 1, 0, 0), (1, 1, 1)):
                self.refuse(bench, BadProgram(((0,) + place, "row")), "row", 0, place, row)
        for expression in WRONG_EXPRESSIONS:
            self.refuse(bench, BadProgram(((1, 0), "row")), "row", 1, (0,), ("tell", expression))
        for row in WRONG_ROWS:
            changed = with_item(PROGRAM[1][0][1], 0, row)
            error = program_error((PROGRAM[0], ((1, changed), PROGRAM[1][1])))
            if error is not None:
                self.refuse(bench, BadProgram(error), "row", 0, (0,), row)

    def test_wrong_rows_within(self):
        bench = self.bench()
        self.refuse(bench, BadProgram(((0, 0, 1, 2), "row")), "row", 0, (0,), ("if", ONE, (REST,), (REST, REST, ("on", 0, ()), None)))
        # Four ifs and tries may stand within one another; the place has two already.
        deep = ("if", ONE, (("if", ONE, (REST,), ()),), ())
        bench.row(0, (1, 0, 1, 0, 0), deep)
        self.refuse(self.bench(), BadProgram(((0, 1, 0, 1, 0, 0, 0, 0, 1, 0), "row")), "row", 0, (1, 0, 1, 0, 0), ("if", ONE, (("try", (), (), 0, (deep,)),), ()))

    def test_how_many_rows(self):
        program = ((), ((0, (REST,) * 100), (0, (REST,))))
        bench = Bench(program, ())
        self.assertEqual(bench.row(1, (0,), ("if", ONE, (REST,) * 19, ())), 1)
        self.refuse(bench, BadProgram((None, "rows")), "row", 0, (5,), ("if", ONE, (), (REST,)))
        self.refuse(Bench(program, ()), BadProgram((None, "rows")), "row", 1, (0,), ("if", ONE, (REST,) * 10, (REST,) * 10))
        self.assertEqual(bench.row(1, (0,), REST), 2)

    def test_too_many_edits_behind_the_others(self):
        bench = full(self.bench(LOUD))
        self.refuse(bench, Unfit(), "row", 2, (0,), REST)
        self.refuse(bench, Unfit(), "row", 0, (2,), REST)
        self.refuse(bench, BadProgram(((0, 0), "row")), "row", 0, (0,), None)
        self.refuse(bench, TooManyEdits(), "row", 0, (0,), REST)


def full(bench):
    """The bench behind forty edits."""
    while bench.version < 40:
        bench.row(0, (0,), ("tell", ("n", bench.version)))
    return bench


class Asides(Benches):
    def test_put(self):
        for place, wanted in ((0, (AROUND, LOUD, QUIET)), (1, (LOUD, AROUND, QUIET)), (2, (LOUD, QUIET, AROUND))):
            bench = self.bench(LOUD, QUIET)
            self.assertEqual(bench.put(place, AROUND), 1)
            self.assertEqual(bench.asides, wanted)
            self.assertEqual(bench.program, PROGRAM)
        bench = self.bench()
        self.assertEqual(bench.put(aside=AROUND, place=0), 1)
        self.assertEqual(list(bench), [AROUND])

    def test_places_of_put(self):
        for bench in (self.bench(), self.bench(LOUD)):
            for place in NO_INTEGERS + (-1, len(bench) + 1, 10 ** 30):
                self.refuse(bench, Unfit(), "put", place, AROUND)
                self.refuse(bench, Unfit(), "put", place, None)

    def test_ten_and_one_more(self):
        bench = self.bench()
        for name in range(10):
            self.assertEqual(bench.put(name, with_item(LOUD, 0, name)), name + 1)
        for place in (0, 10):
            self.refuse(bench, TooMany(10), "put", place, with_item(LOUD, 0, 10))
            self.refuse(bench, TooMany(10), "put", place, None)
        self.refuse(bench, Unfit(), "put", 11, LOUD)
        bench.out(4)
        self.assertEqual(bench.put(0, with_item(LOUD, 0, 10)), 12)

    def test_asides_that_are_none(self):
        bench = self.bench(LOUD, QUIET)
        for place in range(3):
            for value in NO_TUPLES + NEVER + ((), (LOUD,), LOUD[:5], LOUD + (0,), list(LOUD)):
                self.refuse(bench, BadAside(place, "aside"), "put", place, value)
            for at, wrong, word in ((0, 100, "aside"), (0, True, "aside"), (1, "ahead", "aside"), (2, (), "moments"), (2, (("get", 1),), "moments"), (2, [("tell", None)], "moments"),
                                    (3, ("row", ()), "part"), (3, None, "part"), (4, ("n", True), "test"), (5, [], "rows"), (5, (("on", 0, ()),), "rows"), (5, (None,), "rows"), (5, (REST,) * 121, "rows")):
                self.refuse(bench, BadAside(place, word), "put", place, with_item(with_item(LOUD, 0, 50), at, wrong))
        # The name is told at the place of the second one that has it.
        for place, told in ((0, 1), (1, 1), (2, 2)):
            self.refuse(bench, BadAside(told, "name"), "put", place, LOUD)
        for place, told in ((0, 2), (1, 2), (2, 2)):
            self.refuse(bench, BadAside(told, "name"), "put", place, with_item(AROUND, 0, QUIET[0]))

    def test_out(self):
        for place, wanted in ((0, (QUIET, AROUND)), (1, (LOUD, AROUND)), (2, (LOUD, QUIET))):
            bench = self.bench(LOUD, QUIET, AROUND)
            self.assertEqual(bench.out(place), 1)
            self.assertEqual(bench.asides, wanted)
        self.assertEqual(bench.out(place=0), 2)
        self.assertEqual(bench.out(0), 3)
        self.assertEqual(bench.asides, ())

    def test_places_of_out(self):
        for bench in (self.bench(), self.bench(LOUD), self.bench(LOUD, QUIET)):
            for place in NO_INTEGERS + (-1, len(bench), 10 ** 30):
                self.refuse(bench, Unfit(), "out", place)

    def test_swap(self):
        asides = (LOUD, QUIET, AROUND)
        for place in range(3):
            for further in range(3):
                bench = self.bench(*asides)
                self.assertEqual(bench.swap(place, further), 1)
                wanted = list(asides)
                wanted[place], wanted[further] = wanted[further], wanted[place]
                self.assertEqual(bench.asides, tuple(wanted))
                bench.swap(further=further, place=place)
                self.assertEqual(bench.asides, asides)

    def test_places_of_swap(self):
        bench = self.bench(LOUD, QUIET)
        for place in NO_INTEGERS + (-1, 2, 10 ** 30):
            self.refuse(bench, Unfit(), "swap", place, 0)
            self.refuse(bench, Unfit(), "swap", 1, place)
            self.refuse(bench, Unfit(), "swap", place, place)
        self.refuse(self.bench(), Unfit(), "swap", 0, 0)

    def test_too_many_edits_behind_the_others(self):
        bench = full(self.bench(LOUD, QUIET))
        for call, handed in (("put", (3, AROUND)), ("out", (2,)), ("swap", (0, 2))):
            self.refuse(bench, Unfit(), call, *handed)
        self.refuse(bench, BadAside(0, "aside"), "put", 0, None)
        self.refuse(bench, BadAside(1, "name"), "put", 0, LOUD)
        for call, handed in (("put", (0, AROUND)), ("out", (0,)), ("swap", (0, 1)), ("swap", (0, 0))):
            self.refuse(bench, TooManyEdits(), call, *handed)
        ten = full(self.bench(*[with_item(LOUD, 0, name) for name in range(10)]))
        self.refuse(ten, TooMany(10), "put", 0, AROUND)


class Batches(Benches):
    def test_edits_as_one(self):
        bench = self.bench(LOUD)
        edits = (("put", 1, QUIET), ("row", 0, (0,), REST), ("swap", 0, 1), ("out", 1), ("put", 0, AROUND), ("row", 0, (0,), ("fault", 1)))
        self.assertEqual(bench.batch(edits), 1)
        self.assertEqual(bench.asides, (AROUND, QUIET))
        self.assertEqual(bench.program[1][0][1][0], ("fault", 1))
        self.assertEqual(bench.undo(), 0)
        self.assertEqual((bench.program, bench.asides), (PROGRAM, (LOUD,)))
        self.assertEqual(bench.redo(), 1)
        self.assertEqual(bench.asides, (AROUND, QUIET))

    def test_none_one_twelve_and_thirteen(self):
        bench = self.bench()
        self.assertEqual(bench.batch(()), 1)
        self.assertEqual(bench.batch(edits=(("put", 0, LOUD),)), 2)
        edits = tuple(("row", 0, (0,), ("tell", ("n", number))) for number in range(13))
        self.assertEqual(bench.batch(edits[:12]), 3)
        self.assertEqual(bench.program[1][0][1][0], ("tell", ("n", 11)))
        self.refuse(bench, BadBatch(), "batch", edits)

    def test_what_is_no_batch(self):
        bench = self.bench(LOUD, QUIET)
        good = ("swap", 0, 1)
        for value in NO_TUPLES:
            self.refuse(bench, BadBatch(), "batch", value)
        for wrong in NO_TUPLES + NEVER + ((), ("undo",), ("redo",), ("batch", ()), ("at", 0), ("out",), ("out", 0, 0), ("put", 0), ("put", 0, AROUND, 1), ("row", 0, (0,)), ("row", 0, (0,), REST, 1), ("swap", 0), ("swap", 0, 1, 2),
                                          (None, 0), (["out"], 0), ("Out", 0), ("", 0), ({}, 0), (0, 0), ["out", 0], (("out",), 0), ("out 0",), (good,)):
            for batch in ((wrong,), (good, wrong), (wrong, good), (good, good, wrong), (("out", 9), wrong)):
                self.refuse(bench, BadBatch(), "batch", batch)
        self.refuse(bench, BadBatch(), "batch", [good])
        self.refuse(bench, BadBatch(), "batch", good)

    def test_each_edit_refused_in_its_turn(self):
        bench = self.bench(LOUD, QUIET)
        good = ("swap", 0, 1)
        for wrong in (("out", 2), ("out", True), ("swap", 0, 2), ("put", 3, AROUND), ("put", 0, None), ("put", 0, LOUD), ("row", 2, (0,), REST), ("row", 0, (7,), REST), ("row", 0, (0,), None), ("row", 0, None, None),
                      ("row", 0, (0,), ("if", ONE, (REST,) * 119, ()))):
            for index in range(12):
                self.refuse(bench, Rejected(index), "batch", (good,) * index + (wrong,) + (good,) * (11 - index))
            self.refuse(bench, Rejected(1), "batch", (good, wrong, wrong))

    def test_in_order(self):
        bench = self.bench(LOUD)
        self.refuse(bench, Rejected(1), "batch", (("out", 0), ("out", 0)))
        self.refuse(bench, Rejected(0), "batch", (("put", 2, QUIET), ("put", 1, AROUND)))
        self.assertEqual(bench.batch((("put", 1, AROUND), ("put", 2, QUIET), ("out", 0), ("put", 0, LOUD))), 1)
        self.assertEqual(bench.asides, (LOUD, AROUND, QUIET))
        ten = self.bench(*[with_item(LOUD, 0, name) for name in range(10)])
        self.refuse(ten, Rejected(0), "batch", (("put", 0, with_item(LOUD, 0, 20)), ("out", 0)))
        self.assertEqual(ten.batch((("out", 0), ("put", 0, with_item(LOUD, 0, 20)))), 1)

    def test_too_many_edits(self):
        bench = full(self.bench(LOUD))
        self.refuse(bench, BadBatch(), "batch", None)
        self.refuse(bench, Rejected(0), "batch", (("out", 1),))
        self.refuse(bench, TooManyEdits(), "batch", ())
        self.refuse(bench, TooManyEdits(), "batch", (("out", 0),))
        bench.undo()
        # An edit within a batch is no further one.
        self.assertEqual(bench.batch((("row", 0, (0,), REST),) * 12), 40)


class Versions(Benches):
    def test_forty_edits_and_one_more(self):
        bench = self.bench(LOUD, QUIET)
        edits = (lambda: bench.swap(0, 1), lambda: bench.row(0, (0,), TELL), lambda: bench.batch(()), lambda: bench.out(1), lambda: bench.put(1, QUIET if bench[0] == LOUD else LOUD))
        for version in range(40):
            self.assertEqual(edits[version % 5](), version + 1)
            self.assertEqual(bench.version, version + 1)
        self.refuse(bench, TooManyEdits(), "swap", 0, 1)
        bench.undo()
        bench.swap(0, 0)
        self.refuse(bench, TooManyEdits(), "swap", 0, 0)

    def test_an_edit_that_changes_nothing_counts(self):
        bench = self.bench(LOUD)
        self.assertEqual(bench.swap(0, 0), 1)
        self.assertEqual(bench.row(0, (0,), TELL), 2)
        self.assertEqual(bench.batch(()), 3)
        self.assertEqual([bench.undo(), bench.undo(), bench.undo()], [2, 1, 0])

    def test_undo_and_redo_to_both_ends(self):
        bench = self.bench()
        self.refuse(bench, NothingToUndo(), "undo")
        self.refuse(bench, NothingToRedo(), "redo")
        states = [state_of(bench)]
        for edit in (("put", 0, LOUD), ("put", 0, QUIET), ("swap", 0, 1), ("row", 0, (1,), REST), ("out", 0)):
            getattr(bench, edit[0])(*edit[1:])
            states.append(state_of(bench))
        for _ in range(3):
            for version in range(4, -1, -1):
                self.assertEqual(bench.undo(), version)
                self.assertEqual(state_of(bench), states[version])
            self.refuse(bench, NothingToUndo(), "undo")
            for version in range(1, 6):
                self.assertEqual(bench.redo(), version)
                self.assertEqual(state_of(bench), states[version])
            self.refuse(bench, NothingToRedo(), "redo")

    def test_an_edit_forgets_what_was_taken_back(self):
        for edit in (("put", 1, AROUND), ("out", 0), ("swap", 0, 0), ("row", 0, (0,), TELL), ("batch", ())):
            bench = self.bench(LOUD)
            bench.put(0, QUIET)
            bench.put(0, AROUND)
            bench.undo()
            bench.undo()
            self.assertEqual(getattr(bench, edit[0])(*edit[1:]), 1)
            self.refuse(bench, NothingToRedo(), "redo")
            self.assertEqual(bench.undo(), 0)
            self.assertEqual(bench.asides, (LOUD,))

    def test_what_is_refused_forgets_nothing(self):
        bench = self.bench(LOUD)
        bench.put(0, QUIET)
        bench.undo()
        for call, handed in (("out", (1,)), ("batch", (None,)), ("batch", ((("out", 4),),)), ("put", (0, None)), ("row", (0, (0,), None)), ("at", (1,)), ("told", (None, 0)), ("undo", ())):
            with self.assertRaises(AsideError):
                getattr(bench, call)(*handed)
        self.assertEqual(bench.redo(), 1)
        self.assertEqual(bench.asides, (QUIET, LOUD))

    def test_at(self):
        bench = self.bench(LOUD)
        bench.put(0, QUIET)
        bench.row(0, (0,), REST)
        bench.out(1)
        changed = bench.program
        wanted = [(PROGRAM, (LOUD,)), (PROGRAM, (QUIET, LOUD)), (changed, (QUIET, LOUD)), (changed, (QUIET,))]
        for version in range(4):
            self.assertEqual(repr(bench.at(version)), repr(wanted[version]))
            self.assertEqual(repr(bench.at(version=version)), repr(wanted[version]))
        bench.undo()
        for version in range(3):
            self.assertEqual(repr(bench.at(version)), repr(wanted[version]))
        # What was taken back does not stand.
        self.refuse(bench, NoVersion(3), "at", 3)
        self.assertEqual(bench.version, 2)

    def test_versions_that_are_none(self):
        for bench, many in ((self.bench(), 0), (full(self.bench()), 40)):
            for value in NO_INTEGERS + (-1, many + 1, 10 ** 30, (0,), [0]):
                self.refuse(bench, NoVersion(value), "at", value)

    def test_copies(self):
        bench = self.bench(LOUD)
        bench.put(0, QUIET)
        bench.put(0, AROUND)
        bench.out(2)
        bench.undo()
        bench.undo()
        other = bench.copy()
        self.assertIs(other.__class__, Bench)
        self.assertEqual(other, bench)
        self.assertIsNot(other, bench)
        self.assertEqual(state_of(other), state_of(bench))
        before = state_of(bench)
        # Either goes its own way, back and forth.
        self.assertEqual([other.redo(), other.redo()], [2, 3])
        self.assertEqual(state_of(bench), before)
        other.undo()
        other.row(0, (0,), REST)
        self.assertEqual(state_of(bench), before)
        kept = state_of(other)
        self.assertEqual([bench.redo(), bench.redo(), bench.undo(), bench.undo(), bench.undo()], [2, 3, 2, 1, 0])
        bench.batch(())
        self.assertEqual(state_of(other), kept)
        self.assertEqual(other.version, 3)

    def test_a_copy_of_a_full_bench(self):
        bench = full(self.bench())
        other = bench.copy()
        self.refuse(other, TooManyEdits(), "batch", ())
        self.assertEqual([other.undo() for _ in range(40)], list(range(39, -1, -1)))
        self.assertEqual(bench.version, 40)


class Attempts(Benches):
    def test_what_work_returns(self):
        bench = self.bench(LOUD)
        for value in (None, 7, (), [1], bench, "x"):
            self.assertIs(bench.attempt(lambda one: value), value)
        self.assertEqual(bench.attempt(lambda one: one.put(0, QUIET)), 1)
        self.assertEqual(bench.asides, (QUIET, LOUD))
        self.assertEqual(bench.attempt(work=lambda one: one is bench), True)
        self.assertEqual(bench.version, 1)

    ERRORS = (Unfit(), errors.BadText(3), BadProgram("form"), BadAside(1, "name"), TooMany(64), errors.NoNode(()), errors.NoPart(1, 2), errors.NoMoment(3), errors.BadTurning("form"), BadBatch(), Rejected(1),
              TooManyEdits(), NothingToUndo(), NothingToRedo(), NoVersion(5), AsideError("own"))

    def edited(self):
        """A bench with edits that stand and others that were taken back."""
        bench = self.bench(LOUD)
        bench.put(0, QUIET)
        bench.row(0, (0,), REST)
        bench.put(0, AROUND)
        bench.undo()
        return bench

    def works(self):
        return (
            lambda one: one.put(0, AROUND), lambda one: one.undo(), lambda one: one.redo(), lambda one: one.batch((("out", 0), ("out", 0))), lambda one: [one.undo(), one.undo(), one.row(1, (0,), REST)],
            lambda one: [one.redo(), one.swap(0, 1), one.undo(), one.undo()], lambda one: None, lambda one: one.attempt(lambda two: two.out(0)),
        )

    def test_errors_of_the_package(self):
        for error in self.ERRORS:
            for work in self.works():
                bench, wanted = self.edited(), self.edited()

                def failing(one):
                    work(one)
                    raise error

                with self.assertRaises(AsideError) as caught:
                    bench.attempt(failing)
                self.assertIs(caught.exception, error)
                self.assertEqual(state_of(bench), state_of(wanted))
                self.same_redos(bench, wanted)

    def test_errors_of_whatever_call(self):
        bench = self.edited()
        for failing, wanted in ((lambda one: [one.out(0), one.out(9)], Unfit), (lambda one: [one.undo(), one.undo(), one.undo()], NothingToUndo), (lambda one: [one.swap(0, 1), one.redo()], NothingToRedo),
                                (lambda one: [one.out(0), one.at(9)], NoVersion), (lambda one: [one.out(0), Bench(None, ())], BadProgram), (lambda one: [one.out(0), one.told(0, 0)], Unfit),
                                (lambda one: [one.out(0), one.batch((("out", 5),))], Rejected), (lambda one: [one.out(0), one[7]], Unfit), (lambda one: [full(one), one.batch(())], TooManyEdits)):
            before, twin = state_of(bench), bench.copy()
            with self.assertRaises(wanted):
                bench.attempt(failing)
            self.assertEqual(state_of(bench), before)
            self.same_redos(bench.copy(), twin)

    def test_other_errors(self):
        for error in (ValueError("own"), KeyError(1), ZeroDivisionError(), RuntimeError(), TypeError(), Exception(), KeyboardInterrupt()):
            bench = self.edited()

            def failing(one):
                one.out(0)
                raise error

            with self.assertRaises(BaseException) as caught:
                bench.attempt(failing)
            self.assertIs(caught.exception, error)
            # What was done stays.
            self.assertEqual((bench.version, bench.asides), (3, (LOUD,)))
            self.refuse(bench, NothingToRedo(), "redo")

    def test_attempts_within_attempts(self):
        bench = self.bench()

        def inner(one):
            one.put(0, QUIET)
            raise Unfit()

        def outer(one):
            one.put(0, LOUD)
            with self.assertRaises(Unfit):
                one.attempt(inner)
            self.assertEqual((one.version, one.asides), (1, (LOUD,)))
            one.put(1, AROUND)
            return one.version

        self.assertEqual(bench.attempt(outer), 2)
        self.assertEqual(bench.asides, (LOUD, AROUND))

        def both(one):
            one.out(0)
            one.attempt(lambda two: two.undo())
            one.attempt(inner)

        before = state_of(bench)
        with self.assertRaises(Unfit):
            bench.attempt(both)
        self.assertEqual(state_of(bench), before)
        self.refuse(bench, NothingToRedo(), "redo")

        def other(one):
            one.out(0)
            try:
                one.attempt(lambda two: [two.out(0), 1 // 0])
            except ZeroDivisionError:
                one.put(0, QUIET)
            return one.version

        self.assertEqual(bench.attempt(other), 5)
        self.assertEqual(bench.asides, (QUIET,))

    def test_deep_attempts(self):
        bench = self.bench(LOUD)

        def deeper(one, depth):
            one.swap(0, 0)
            if depth == 0:
                raise Unfit()
            try:
                one.attempt(lambda two: deeper(two, depth - 1))
            except Unfit:
                # Those within five of the innermost one let the error go on.
                if depth < 5:
                    raise
            return one.version

        self.assertEqual(bench.attempt(lambda one: deeper(one, 10)), 6)
        with self.assertRaises(Unfit):
            bench.attempt(lambda one: deeper(one, 4))
        self.assertEqual(bench.version, 6)

    def test_attempts_are_no_edits(self):
        bench = full(self.bench())
        self.assertEqual(bench.attempt(lambda one: one.version), 40)
        self.assertEqual(bench.attempt(lambda one: [one.told((), 5), one.woven()] and one.version), 40)


class Compared(Benches):
    """Benches beside a list of states."""

    def test_made(self):
        for seed in range(60):
            source = random.Random(seed)
            making = Making(source)
            program = making.program(1)
            asides = making.asides(program, source.randint(0, 3))
            bench, past, taken = Bench(program, asides), [(program, asides)], []
            for _ in range(70):
                state, edit = self.some_edit(source, making, past[-1])
                pick = source.random()
                if pick < 0.25:
                    if len(past) > 1:
                        taken.append(past.pop())
                        self.assertEqual(bench.undo(), len(past) - 1)
                elif pick < 0.4:
                    if taken:
                        past.append(taken.pop())
                        self.assertEqual(bench.redo(), len(past) - 1)
                elif state is not None and len(past) <= 40:
                    past.append(state)
                    taken = []
                    self.assertEqual(getattr(bench, edit[0])(*edit[1:]), len(past) - 1)
                else:
                    with self.assertRaises(AsideError):
                        getattr(bench, edit[0])(*edit[1:])
                self.assertEqual((bench.program, bench.asides, bench.version), past[-1] + (len(past) - 1,))
                self.assertEqual([bench.at(version) for version in range(len(past))], past)
                if source.random() < 0.1:
                    bench = bench.copy()
            self.assertEqual(bench.told((1,), 40), run(*past[-1], (1,), 40))

    def some_edit(self, source, making, state):
        """An edit, and the state behind it, None if it is refused."""
        (cells, functions), asides = state
        word = source.choice(("row", "row", "put", "put", "out", "swap"))
        if word == "row":
            f = source.randrange(len(functions))
            places = rows_of(functions[f][1])
            if not places:
                return None, ("row", f, (0,), REST)
            number = source.randrange(len(functions[f][1]))
            row = making.row(False, 2)
            changed = (cells, with_item(functions, f, (functions[f][0], with_item(functions[f][1], number, row))))
            return (None if program_error(changed) else (changed, asides)), ("row", f, (number,), row)
        if word == "put":
            name = source.randrange(12)
            one = making.aside(name, (0, 1), True)
            place = source.randint(0, len(asides))
            changed = asides[:place] + (one,) + asides[place:]
            return (None if asides_error(state[0], changed) else (state[0], changed)), ("put", place, one)
        if word == "out":
            place = source.randint(0, len(asides))
            return ((state[0], asides[:place] + asides[place + 1:]) if place < len(asides) else None), ("out", place)
        if not asides:
            return None, ("swap", 0, 0)
        one, other = source.randrange(len(asides)), source.randrange(len(asides))
        changed = list(asides)
        changed[one], changed[other] = changed[other], changed[one]
        return (state[0], tuple(changed)), ("swap", one, other)

    def test_what_is_passed_is_not_changed_nor_kept_open(self):
        edits = [["swap", 0, 0], ("row", 0, (0,), ["rest"])]
        kept = copy.deepcopy(edits)
        bench = self.bench(LOUD)
        self.refuse(bench, BadBatch(), "batch", edits)
        self.refuse(bench, Rejected(0), "batch", (edits[1],))
        self.assertEqual(edits, kept)
        told = bench.at(0)
        asides = bench.asides
        bench.out(0)
        self.assertEqual((told, asides), ((PROGRAM, (LOUD,)), (LOUD,)))

    def test_benches_as_values(self):
        bench, other = self.bench(LOUD), self.bench(QUIET)
        for call, handed in (("row", (other, (0,), REST)), ("row", (0, other, REST)), ("put", (other, LOUD)), ("out", (other,)), ("swap", (0, other)), ("told", (other, 9)), ("told", ((), other)), ("told", ((other,), 9))):
            self.refuse_any(bench, Unfit, call, handed)
        self.refuse_any(bench, BadProgram, "row", (0, (0,), other))
        self.refuse_any(bench, BadAside, "put", (0, other))
        self.refuse_any(bench, BadBatch, "batch", (other,))
        self.refuse_any(bench, BadBatch, "batch", ((other,),))
        self.refuse_any(bench, BadBatch, "batch", (((other, 0),),))
        self.refuse_any(bench, NoVersion, "at", (other,))
        for value in (other, (other, ()), (((other,), PROGRAM[1])), ((7,), (other,)), ((7,), ((0, (other,)),)), ((7,), ((0, ((other,),)),))):
            with self.assertRaises(BadProgram):
                Bench(value, ())
        for at in range(6):
            with self.assertRaises(BadAside):
                Bench(PROGRAM, (with_item(LOUD, at, other),))
        with self.assertRaises(Unfit):
            bench[other]

    def refuse_any(self, bench, error, call, handed):
        before = state_of(bench)
        with self.subTest(call=call):
            with self.assertRaises(AsideError) as caught:
                getattr(bench, call)(*handed)
            self.assertIs(caught.exception.__class__, error)
        self.assertEqual(state_of(bench), before)


if __name__ == "__main__":
    unittest.main()
