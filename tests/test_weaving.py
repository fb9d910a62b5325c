"""What weave, copies_of, run_woven and free_woven tell: [G1] to [G5]."""

import contextlib
import copy
import inspect
import random
import sys
import unittest

from asidewoven.classes import classes
from asidewoven.errors import TooMany
from asidewoven.free import free_run
from asidewoven.judging import judge
from asidewoven.machine import run
from asidewoven.nodes import chains, nodes
from asidewoven.programs import body_at, program_error
from asidewoven.turnings import turned
from asidewoven.weaving import copies_of, free_woven, run_woven, weave
from free_oracle import FreeOracle
from making import NUMBERS
from oracle import Oracle
from samples import ONE, REST
from test_nodes import CALL, EVERY, QUOTIENT, SLOT, SUM, TELL, TELLS, aside, function, made
from weave_oracle import FreeWovenOracle, WovenOracle, after_join, bare, first_nodes, places_of

BELOW = ("row", (EVERY, ("letters", (1,)), EVERY))
# 2 calls 0 and 1, 1 calls 0, which tells.
PROGRAM = ((4,), ((0, (TELL, ("get", 0, 0))), (0, (CALL,)), (0, (CALL, ("call", 0, 1, ())))))
# A machine of 128 states.
WINDOW = ("row", (EVERY, ("letters", (0,))) + (("any",),) * 6)


def told_chain(links, deed, numbers):
    """The chain that has the numbers in the place of nodes."""
    if deed is not None:
        deed = deed[:2] + (-1 if deed[2] is None else numbers[deed[2]],)
    return tuple((place, numbers[node]) for place, node in links), deed


def counting(*lengths):
    """Asides whose machines count piles, each up to its length."""
    return tuple(
        aside(name, "before", (("ask", None),), ("star", ("row", (("any",),) * length))) for name, length in enumerate(lengths)
    )


@contextlib.contextmanager
def few_calls(many=120):
    """In here no more than so many calls may stand within one another."""
    kept, depth = sys.getrecursionlimit(), len(inspect.stack(0))
    sys.setrecursionlimit(depth + many)
    try:
        yield
    finally:
        sys.setrecursionlimit(kept)


def oracle_run(woven, inputs, steps):
    done = WovenOracle(woven, inputs, steps)
    return tuple(done.events), done.end, done.done


class Weave(unittest.TestCase):
    def check(self, program, asides, begins=()):
        """The weaving is what the words tell of it, by chains of each node of each class."""
        woven, chart = weave(program, asides, begins)
        told = classes(program, asides, begins)
        numbers = {node: number for number, part in enumerate(told) for node in part}
        with self.subTest(program=program, asides=asides, begins=begins):
            self.assertEqual(repr(chart), repr(told))
            cells, tests, copies, entry = woven
            self.assertEqual(repr(cells), repr(program[0]))
            self.assertEqual(repr(tests), repr(tuple((one[1], one[4]) for one in asides)))
            self.assertEqual(len(copies), len(told))
            self.assertEqual(repr(entry), repr(numbers[first_nodes(program, asides, ())[0]]))
            for (letter, rows), part in zip(copies, told):
                self.assertEqual({node[0] for node in part}, {letter})
                self.assertEqual(repr(bare(rows)), repr(body_at(program, asides, letter)))
                for node in part:
                    wanted = [(place, told_chain(links, deed, numbers)) for place, links, deed in chains(program, asides, begins, node)]
                    self.assertEqual(repr(places_of(rows)), repr(wanted))
            self.assertIsNone(judge(program, asides, begins, woven, chart))
        return woven

    def copies(self, program, asides, *letters, begins=()):
        """The letters of the copies are these."""
        self.assertEqual([letter for letter, _ in self.check(program, asides, begins)[2]], list(letters))

    def test_no_asides(self):
        self.copies(PROGRAM, (), 0, 1, 2)
        woven, chart = weave(PROGRAM, (), ())
        self.assertEqual(chart, ((function(0),), (function(1),), (function(2),)))
        self.assertEqual(woven, ((4,), (), (
            (0, (("tell", ONE, ((), ("tell", None, -1))), ("get", 0, 0, ((), ("get", 0, -1))))),
            (1, (("call", 0, 0, (), ((), ("call", 0, 0))),)),
            (2, (("call", 0, 0, (), ((), ("call", 0, 0))), ("call", 0, 1, (), ((), ("call", 1, 1))))),
        ), 2))

    def test_each_form_and_test(self):
        for form in ("before", "behind", "around"):
            for test, copies in ((("n", 0), (0, 1, 2)), (ONE, (-6, 0, 0, 1, 2)), (("n", -3), (-6, 0, 0, 1, 2)), (SLOT, (-6, 0, 0, 1, 2)),
                                 (QUOTIENT, (-6, 0, 0, 1, 2)), (SUM, (-6, 0, 0, 1, 2))):
                self.copies(PROGRAM, (aside(5, form, TELLS, BELOW, test),), *copies)
                for further in ("before", "behind", "around"):
                    self.check(PROGRAM, (aside(5, form, TELLS, BELOW, test), aside(2, further, TELLS + (("get", None),), EVERY, SLOT)))

    def test_names_in_other_orders_than_places(self):
        asides = tuple(aside(name, "before", TELLS, EVERY, ONE, (REST,)) for name in (4, 9, 0))
        woven = self.check(PROGRAM, asides)
        self.assertEqual([letter for letter, _ in woven[2]], [-10, -5, -1, 0, 1, 2])
        self.assertEqual(woven[2][3][1][0][-1], (((0, 1), (1, 0), (2, 2)), ("tell", None, -1)))

    def test_one_name_less_changes_the_places(self):
        asides = (aside(4, "before", (("ask", None),)), aside(9, "around", TELLS, EVERY, ONE, (("on", 0, ()),)))
        woven = self.check(PROGRAM, asides)
        self.assertEqual([letter for letter, _ in woven[2]], [-10, 0, 1, 2])
        self.assertEqual(woven[1], (("before", ONE), ("around", ONE)))
        self.assertEqual(woven[2][0][1], (("on", 0, (), ((), ("tell", None, -1))),))
        self.assertEqual(woven[2][1][1][0][-1], (((1, 0),), None))

    def test_functions_that_nobody_calls(self):
        program = ((), ((0, (TELL,)), (0, (("call", 0, 1, ()),)), (0, (CALL,)), (0, (CALL,))))
        self.copies(program, (), 0, 3)
        self.copies(program, (aside(5, "before", TELLS, EVERY),), -6, 0, 3)
        self.copies(program, (aside(5, "before", TELLS, EVERY),), -6, 0, 2, 3, begins=((3, 2),))

    def test_one_copy_for_several_nodes(self):
        woven, chart = weave(PROGRAM, (aside(5, "before", (("ask", None),), BELOW),), ())
        self.assertEqual(chart[0], (function(0, 0), function(0, 1)))
        self.assertEqual([letter for letter, _ in woven[2]], [0, 1, 2])

    def test_rows_within_rows(self):
        inner = ("if", SLOT, (CALL, ("try", (TELL,), (3,), 1, (("put", 0, ONE),))), (("ask", 2), ("get", 3, 0)))
        program = ((1,), ((0, (TELL,)), (0, (("try", (inner,), (2, 3), 0, (("if", ONE, (TELL,), (CALL,)),)), inner))))
        asides = (aside(1, "behind", (("tell", None), ("put", None)), EVERY, SLOT, (TELL,)), aside(3, "around", (("call", 0),), ("letters", (1,)), ONE,
                  (("if", SLOT, (("on", 0, ()),), (("try", (("on", 1, ()),), (), 0, ()),)),)))
        self.check(program, asides)

    def test_rows_that_are_never_come_to(self):
        program = ((1,), ((0, (TELL,)), (0, (("if", ONE, (REST,), (TELL,)), ("answer", ONE), CALL, ("get", 0, 0), ("ask", 0), ("put", 0, ONE)))))
        woven = self.check(program, (aside(1, "before", TELLS),))
        self.assertEqual([letter for letter, _ in woven[2]], [1])
        self.assertEqual([chain for _, chain in places_of(woven[2][0][1])], [((), None)] * 5)
        again = self.check(program, (aside(1, "before", TELLS),), ((1,),))
        self.assertEqual([letter for letter, _ in again[2]], [-2, 0, 1])

    def test_on_rows(self):
        rows = (("on", 1, ()), ("on", 2, (ONE,)), ("answer", SLOT), ("on", 3, ()))
        asides = (aside(7, "around", (("call", 0), ("get", 0)), EVERY, SLOT, rows), aside(3, "behind", (("call", None),), EVERY, SLOT, (TELL,)))
        woven = self.check(PROGRAM, asides)
        # One copy for the moment ("call", 0), with the behind aside in its rest, and one for ("get", 0).
        at = copies_of(woven, -8)
        self.assertEqual([[chain for _, chain in places_of(woven[2][copy][1])] for copy in at], [
            [(((1, 2),), ("call", 0, 3)), (((1, 2),), ("call", 0, 3)), ((), None)],
            [((), ("get", 0, -1)), ((), ("get", 0, -1)), ((), None)],
        ])

    def test_deeds(self):
        program = ((4, 5), ((0, ()), (0, (("get", 0, 1), ("put", 0, ONE), CALL, TELL, ("ask", 3)))))
        woven = self.check(program, ())
        self.assertEqual([row[-1] for row in woven[2][1][1]], [
            ((), ("get", 1, -1)), ((), ("put", 0, -1)), ((), ("call", 0, 0)), ((), ("tell", None, -1)), ((), ("ask", None, -1)),
        ])
        around = (aside(1, "around", (("get", None), ("put", None), ("call", None), ("tell", None), ("ask", None)), EVERY, ONE, ()),)
        woven = self.check(program, around)
        self.assertEqual({row[-1][1] for _, rows in woven[2] for row in rows}, {None})
        self.assertEqual(copies_of(woven, 0), ())

    def test_begins(self):
        asides = (aside(5, "before", TELLS, BELOW),)
        self.copies(PROGRAM, asides, -6, 0, 0, 1, 2)
        self.copies(PROGRAM, asides, -6, 0, 0, 1, 2, begins=((2,),))
        self.copies(PROGRAM, asides, -6, 0, 0, 1, 2, 2, begins=((2, 1, 2), (2, 0)))
        self.copies(PROGRAM, asides, -6, 0, 0, 1, 2, 2, begins=((2, 0), (2, 1, 2), (2, 0), (2, 1, 2)))
        halted = ((), ((0, (("fault", 5),)), (0, (CALL, TELL))))
        self.assertEqual(self.check(halted, ())[2][1], (1, (("call", 0, 0, (), ((), ("call", 0, 0))), ("tell", ONE, ((), None)))))
        again = self.check(halted, (), ((1,), (1,)))
        self.assertEqual(again[2][1], (1, (("call", 0, 0, (), ((), ("call", 0, 0))), ("tell", ONE, ((), ("tell", None, -1))))))

    def test_the_entry_is_the_copy_of_the_main_pile_alone(self):
        # The main function's own call has another node, whose class comes first.
        program = ((), ((0, (("if", SLOT, (CALL,), ()), TELL)),))
        asides = (aside(5, "before", TELLS, ("not", ("row", (("any",), ("any",), EVERY)))), aside(2, "before", TELLS, ("row", (("any",), ("any",), EVERY))))
        for order in (asides, asides[::-1]):
            woven = self.check(program, order)
            self.assertEqual(len(copies_of(woven, 0)), 2)
            self.assertEqual(run_woven(woven, (), 9), run(program, order, (), 9))

    def test_made(self):
        for seed in range(150):
            self.check(*made(seed))

    def test_no_two_copies_could_be_one(self):
        joined = 0
        for seed in range(120):
            program, asides, begins = made(seed)
            woven, chart = weave(program, asides, begins)
            for one in range(len(chart)):
                for other in range(one + 1, len(chart)):
                    if woven[2][one][0] == woven[2][other][0]:
                        joined += 1
                        self.assertEqual(judge(program, asides, begins, *after_join(woven, chart, ((one, other),)))[0], "chain")
        self.assertGreater(joined, 50)


class Copies(unittest.TestCase):
    def test_copies_of(self):
        woven, _ = weave(PROGRAM, (aside(5, "before", TELLS, BELOW),), ())
        for letter, copies in ((-6, (0,)), (0, (1, 2)), (1, (3,)), (2, (4,)), (3, ()), (-5, ()), (-1, ()), (11, ()), (10 ** 30, ()), (-(10 ** 30), ())):
            with self.subTest(letter=letter):
                self.assertEqual(repr(copies_of(woven, letter)), repr(copies))
                self.assertEqual(repr(copies_of(letter=letter, woven=woven)), repr(copies))

    def test_in_another_order(self):
        asides = (aside(5, "before", TELLS, BELOW),)
        woven, chart = turned(PROGRAM, asides, (), *weave(PROGRAM, asides, ()), ("order", (2, 0, 4, 3, 1)))
        self.assertEqual([copies_of(woven, letter) for letter in (-6, 0, 1, 2)], [(1,), (0, 4), (3,), (2,)])


class TooManyOf(unittest.TestCase):
    def raised(self, limit, program, asides, begins):
        for _ in range(2):
            with self.assertRaises(TooMany) as caught:
                weave(program, asides, begins)
            self.assertEqual(caught.exception.limit, limit)

    def test_states(self):
        self.raised(64, PROGRAM, (aside(5, "before", TELLS, WINDOW),), ())
        self.raised(64, PROGRAM, (aside(4, "before", TELLS, EVERY), aside(5, "before", TELLS, WINDOW)), ((2,),))

    def test_nodes(self):
        program = ((), ((0, (CALL,)),))
        self.raised(2000, program, counting(14, 13, 11), ())
        # Machines with too many states go ahead of too many nodes.
        self.raised(64, program, counting(14, 13, 11) + (aside(5, "before", TELLS, WINDOW),), ())

    def test_two_thousand_copies(self):
        # 7 * 11 * 13 = 1001 lots of states; two functions that call both, the one's tell with other asides at each.
        rows = (("if", SLOT, (("call", 0, 0, (SLOT,)), ("call", 0, 1, (SLOT,)), TELL), ()),)
        program = ((), ((1, rows), (1, rows), (0, (("call", 0, 1, (ONE,)),))))
        self.assertIsNone(program_error(program))
        asides = tuple(
            aside(name, "behind", TELLS, ("star", ("row", (("any",),) * length)), SLOT) for name, length in enumerate((7, 11, 13))
        )
        many = len(nodes(program, asides[:2], ()))
        woven, chart = weave(program, asides[:2], ())
        self.assertEqual(sum(len(item) for item in chart), many)
        self.assertIsNone(judge(program, asides[:2], (), woven, chart))
        self.raised(2000, program, asides, ())
        program = ((), (program[1][0], (0, (("call", 0, 0, (ONE,)),))))
        program = ((), ((1, (("if", SLOT, (("call", 0, 0, (SLOT,)), TELL), ()),)), program[1][1]))
        woven, chart = weave(program, asides, ())
        self.assertGreater(len(woven[2]), 1000)
        self.assertIsNone(judge(program, asides, (), woven, chart))
        self.assertEqual(run_woven(woven, (), 5000), run(program, asides, (), 5000))


class Runs(unittest.TestCase):
    def check(self, program, asides, inputs, steps, begins=()):
        """The run of the weaving is that of the program with its asides, as both are told by the words."""
        told = self.check_itself(program, asides, inputs, steps, begins)
        self.assertEqual(repr(told), repr(oracle_run(weave(program, asides, begins)[0], inputs, steps)))
        done = Oracle(program, asides, inputs, steps)
        self.assertEqual(told, (tuple(done.events), done.end, done.done))
        return told

    def check_itself(self, program, asides, inputs, steps, begins=()):
        """The run of the weaving is what run tells; few calls may stand within one another."""
        woven, _ = weave(program, asides, begins)
        with few_calls():
            told = run_woven(woven, inputs, steps)
            self.assertEqual(repr(told), repr(run(program, asides, inputs, steps)))
        return told

    def check_free(self, program, asides, choices, begins=()):
        woven, _ = weave(program, asides, begins)
        told = free_woven(woven, choices)
        self.assertEqual(repr(told), repr(free_run(program, asides, choices)))
        done = FreeWovenOracle(woven, choices)
        self.assertEqual(told[0], tuple(done.notes))
        self.assertEqual(told[0], tuple(FreeOracle(program, asides, choices).notes))
        return told

    def test_made(self):
        for seed in range(100):
            program, asides, begins = made(seed)
            source = random.Random(seed)
            for steps in (0, 1, 7, 25, 70):
                inputs = tuple(source.choice(NUMBERS) for _ in range(source.randint(0, 5)))
                with self.subTest(seed=seed, steps=steps, inputs=inputs):
                    self.check(program, asides, inputs, steps, begins)
                choices = tuple(source.choice((0, 0, 0, 1, 1, 2, 3, 9)) for _ in range(steps))
                with self.subTest(seed=seed, choices=choices):
                    self.check_free(program, asides, choices, begins)

    LIVELY_ASIDES = (
        aside(1, "behind", (("call", None), ("ask", None)), EVERY, ("below", ("n", 0), ("v", 1)), (("tell", ("v", 1)), ("if", SLOT, (("answer", ("v", 1)),), ()))),
        aside(7, "around", (("call", 0), ("get", None)), ("row", (EVERY, ("letters", (1,)), EVERY)), ONE,
              (("on", 1, (SUM,)), ("on", 2, ()), ("answer", ("plus", ("v", 1), ("v", 2))))),
        aside(0, "before", TELLS, ("not", BELOW), ("less", ("v", 0), ("n", 4)), (("put", 0, SLOT), ("ask", 0))),
    )
    LIVELY_PROGRAM = ((9,), (
        (1, (("get", 1, 0), ("tell", ("plus", SLOT, ("v", 1))), ("answer", SLOT))),
        (1, (("call", 0, 0, (SLOT,)), ("ask", 1), ("tell", ("v", 1)))),
        (0, (("try", (("call", 0, 1, (ONE,)), ("call", 1, 0, (("n", 6),))), (2,), 3, (("tell", ("n", -1)),)), ("get", 2, 0), ("answer", ("v", 2)))),
    ))

    def test_each_number_of_steps(self):
        for inputs in ((), (5,), (5, 6), (5, 6, 7, -1), (0,) * 200):
            whole = self.check(self.LIVELY_PROGRAM, self.LIVELY_ASIDES, inputs, 5000)
            self.assertGreater(whole[2], 15)
            for steps in range(whole[2] + 2):
                told = self.check_itself(self.LIVELY_PROGRAM, self.LIVELY_ASIDES, inputs, steps)
                self.assertEqual(told[1] == ("bound",), steps < whole[2])

    def test_each_number_of_choices(self):
        for digit in (0, 1, 2, 5):
            for many in range(60):
                self.check_free(self.LIVELY_PROGRAM, self.LIVELY_ASIDES, (0,) * many + (digit,))
        self.check_free(self.LIVELY_PROGRAM, self.LIVELY_ASIDES, ())
        self.check_free(self.LIVELY_PROGRAM, self.LIVELY_ASIDES, (0, 2, 4) * 66 + (0, 0))

    def test_two_hundred_choices_and_no_end(self):
        program = ((), ((0, (CALL, TELL)),))
        asides = (aside(3, "before", (("call", None),), EVERY, SLOT),)
        notes, pile = self.check_free(program, asides, (0, 1, 0) * 66 + (0, 1))
        self.assertGreater(len(pile), 60)
        self.assertEqual(len([note for note in notes if note[0] == "body"]), 134)

    def test_tests_that_are_nought_or_have_a_fault(self):
        for form in ("before", "behind", "around"):
            for test in (("n", 0), ("same", ONE, ("n", 2)), ("part", ONE, ("n", 0)), ("times", ("n", 10 ** 18), ("n", 2)), SLOT, ("v", 1), ("v", 7)):
                asides = (aside(3, form, TELLS + (("call", 0),), EVERY, test, (REST, ("tell", ("v", 1)), ("answer", ("n", 5)))),)
                self.check(PROGRAM, asides, (), 99)
                for choices in ((0,) * 12, (0, 0, 1, 0, 1, 0, 1), (0, 1, 1, 1, 1, 1)):
                    self.check_free(PROGRAM, asides, choices)

    def test_around_with_no_on_one_and_two(self):
        for rows in ((), (REST,), (("on", 0, ()),), (("on", 1, (("n", 8),)), ("answer", ("v", 1))), (("on", 0, ()), ("on", 1, (SUM, ONE, ONE)))):
            for moments in (TELLS, (("get", 0),), (("call", 0),), (("call", None), ("tell", None), ("get", None))):
                asides = (aside(5, "around", moments, EVERY, ONE, rows), aside(2, "behind", moments, BELOW, ONE, (("tell", ("v", 1)),)))
                for listed in (asides, asides[::-1], asides[:1]):
                    self.check(PROGRAM, listed, (), 300)
                    self.check_free(PROGRAM, listed, (0,) * 100)

    def deep(self, many):
        """A program whose main function opens so many bodies, one above the other, each with rows nested in it."""
        inner = ("if", ("v", 0), (("try", (("call", 1, 0, (("less", ("v", 0), ONE),)), ("tell", ("v", 1))), (5,), 2, ()),), (TELL, ("answer", ("n", 40))))
        nested = ("try", (("if", ONE, (inner,), ()),), (6,), 3, (REST,))
        return ((), ((1, (nested, ("tell", ("v", 0)))), (0, (("call", 0, 0, (("n", many - 2),)), ("tell", SLOT)))))

    def test_the_pile(self):
        for many in (2, 58, 59, 60, 61, 62, 70):
            told = self.check_itself(self.deep(many), (), (), 5000)
            self.assertEqual(told[1], ("answer", 0) if many <= 60 else ("fault", 3))
            # The aside's body is one more, on top of that which tells first.
            asides = (aside(4, "before", TELLS, EVERY, ONE, (REST,)),)
            told = self.check_itself(self.deep(many), asides, (), 5000)
            self.assertEqual(told[1], ("answer", 0) if many <= 59 else ("fault", 3))
        loop = ((), ((0, (CALL,)),))
        self.assertEqual(self.check_itself(loop, (), (), 5000), ((), ("fault", 3), 60))
        ring = (aside(4, "around", TELLS, EVERY, ONE, (TELL,)),)
        self.assertEqual(self.check_itself(((), ((0, (TELL,)),)), ring, (), 5000), ((), ("fault", 3), 60))

    def test_five_thousand_steps(self):
        rows = (("if", SLOT, (("call", 1, 0, (("less", SLOT, ONE),)), ("call", 1, 0, (("less", SLOT, ONE),)), TELL), ()),)
        program = ((), ((1, rows), (0, (("call", 0, 0, (("n", 40),)),))))
        asides = (aside(4, "behind", (("call", None),), ("star", ("row", (("any",), ("any",)))), SLOT, (REST,)), aside(1, "before", TELLS, EVERY, ONE, (REST,)))
        for steps in (4999, 5000):
            told = self.check_itself(program, asides, (), steps)
            self.assertEqual(told[1:], (("bound",), steps))

    def test_wovens_that_weave_does_not_tell(self):
        for seed in range(60):
            program, asides, begins = made(seed)
            source = random.Random(seed)
            woven, chart = other_weaving(source, program, asides, begins)
            self.assertIsNone(judge(program, asides, begins, woven, chart))
            for steps in (0, 3, 20, 200):
                inputs = tuple(source.choice(NUMBERS) for _ in range(source.randint(0, 5)))
                self.assertEqual(run_woven(woven, inputs, steps), run(program, asides, inputs, steps))
                self.assertEqual(oracle_run(woven, inputs, steps), run(program, asides, inputs, steps))
                choices = tuple(source.choice((0, 0, 0, 1, 2, 9)) for _ in range(steps // 5))
                self.assertEqual(free_woven(woven, choices), free_run(program, asides, choices))

    def test_the_letters_are_those_of_the_copies(self):
        asides = (aside(5, "before", TELLS, EVERY, SLOT, (REST,)), aside(9, "around", TELLS, EVERY, SLOT, (("on", 0, ()),)))
        notes, pile = self.check_free(PROGRAM, asides, (0, 0, 1, 0, 1))
        self.assertEqual(notes, (("body", 2), ("body", 0), ("test", 5), ("body", -6), ("end", -6), ("test", 9), ("body", -10)))
        self.assertEqual(pile, (2, 0))

    def test_cells_are_those_of_the_woven(self):
        woven, _ = weave(((3, 4), ((0, (("get", 0, 1), ("tell", SLOT), ("put", 1, ("n", 6)), ("get", 0, 1), ("answer", SLOT))),)), (), ())
        for _ in range(2):
            self.assertEqual(run_woven(woven, (), 9), ((("tell", 4),), ("answer", 6), 5))
        self.assertEqual(run_woven(((3, -1),) + woven[1:], (), 9), ((("tell", -1),), ("answer", 6), 5))


def other_weaving(source, program, asides, begins):
    """A right weaving with some copies told twice, in another order, each with its item."""
    (cells, tests, copies, entry), chart = weave(program, asides, begins)
    twice = [source.randrange(len(copies)) for _ in range(source.randint(0, 3))]
    sources = list(range(len(copies))) + twice
    places = {}
    for place, number in enumerate(sources):
        places.setdefault(number, []).append(place)

    def renamed(rows):
        made_rows = []
        for row in rows:
            if row[0] == "if":
                row = row[:2] + (renamed(row[2]), renamed(row[3]))
            elif row[0] == "try":
                row = ("try", renamed(row[1])) + row[2:4] + (renamed(row[4]),)
            elif row[0] in ("get", "put", "call", "tell", "ask", "on"):
                links, deed = row[-1]
                links = tuple((place, source.choice(places[linked])) for place, linked in links)
                if deed is not None and deed[2] != -1:
                    deed = deed[:2] + (source.choice(places[deed[2]]),)
                row = row[:-1] + ((links, deed),)
            made_rows.append(row)
        return tuple(made_rows)

    woven = (cells, tests, tuple((copies[one][0], renamed(copies[one][1])) for one in sources), source.choice(places[entry]))
    order = list(range(len(sources)))
    source.shuffle(order)
    return turned(program, asides, begins, woven, tuple(chart[one] for one in sources), ("order", tuple(order)))


class Calls(unittest.TestCase):
    def test_the_same_again_and_nothing_changed(self):
        for seed in range(20):
            handed = made(seed)
            program, asides, begins = handed
            kept, before = copy.deepcopy(handed), repr(handed)
            told = weave(*handed)
            first = repr(told)
            self.assertEqual(repr(weave(*kept)), first)
            self.assertEqual(repr(weave(begins=begins, asides=asides, program=program)), first)
            woven, _ = told
            for _ in range(2):
                self.assertEqual(run_woven(woven, (1, 2), 50), run_woven(steps=50, inputs=(1, 2), woven=woven))
                self.assertEqual(free_woven(woven, (0, 0, 1, 0)), free_woven(choices=(0, 0, 1, 0), woven=woven))
            self.assertEqual(repr(told), first)
            self.assertEqual(repr(handed), before)


if __name__ == "__main__":
    unittest.main()
