"""What why and first_unlike tell: [K1] to [K3]."""

import copy
import random
import unittest

from asidewoven.errors import AsideError, NoMoment, TooMany
from asidewoven.fits import states_at
from asidewoven.machine import moments, run
from asidewoven.why import first_unlike, why
from making import NUMBERS
from oracle import Oracle
from samples import ONE, REST, with_item
from test_nodes import CALL, EVERY, SLOT, TELL, TELLS, aside, made
from test_weaving import WINDOW, counting, few_calls

TOP = ("row", (EVERY, ("letters", tuple(range(12)))))
PROGRAM = ((5,), ((1, (("get", 1, 0), ("answer", ("plus", SLOT, ("v", 1))))), (0, (("call", 0, 0, (ONE,)), ("tell", SLOT), ("put", 0, SLOT)))))


class WhyOracle(Oracle):
    """A run that keeps, for each body of an aside that is opened, the pile as its moment began, and its letter.

    rests has the piles at which the moments of the rests being run began.
    """

    def __init__(self, *handed):
        self.told, self.rests = [], []
        super().__init__(*handed)

    def moment(self, kind, number, values):
        return self.in_moment(self.pile, lambda: super(WhyOracle, self).moment(kind, number, values))

    def in_moment(self, pile, call):
        self.rests.append(pile)
        try:
            return call()
        finally:
            self.rests.pop()

    def body(self, letter, rows, values, around):
        if len(self.pile) == 60:
            return super().body(letter, rows, values, around)
        if letter < 0:
            self.told.append((self.rests[-1], letter))
        # What an on of this body runs is of the moment for which the body is opened.
        around = None if around is None else around + (self.rests[-1],)
        return super().body(letter, rows, values, around)

    def row(self, row, slots, around):
        if row[0] != "on":
            return super().row(row, slots, around)
        return self.in_moment(around[4], lambda: super(WhyOracle, self).row(row, slots, around[:4]))


class Why(unittest.TestCase):
    def check(self, program, asides, *wanted, inputs=(), steps=200):
        """What why tells of each number is this."""
        with self.subTest(program=program, asides=asides, steps=steps):
            told = [why(program, asides, inputs, steps, number) for number in range(len(wanted))]
            self.assertEqual(repr(told), repr([(pile, place, states_at(program, asides, pile)) for pile, place in wanted]))
            self.none(program, asides, inputs, steps, len(wanted))

    def none(self, program, asides, inputs, steps, *numbers):
        for number in numbers:
            with self.assertRaises(AsideError) as caught:
                why(program, asides, inputs, steps, number)
            self.assertIs(caught.exception.__class__, NoMoment)
            self.assertEqual(caught.exception.number, number)

    def test_each_form(self):
        for form in ("before", "behind", "around"):
            self.check(PROGRAM, (aside(4, form, (("call", 0),), TOP, ONE, (REST,)),), ((1,), 0))
            self.check(PROGRAM, (aside(4, form, (("get", None),), TOP, ONE, (REST,)),), ((1, 0), 0))
            self.check(PROGRAM, (aside(4, form, (("get", None), ("tell", None), ("put", 0)), TOP, ONE, (REST,)),), ((1, 0), 0), ((1,), 0), ((1,), 0))

    def test_places(self):
        asides = (aside(4, "before", TELLS, TOP), aside(9, "before", (("call", 0),), TOP), aside(1, "behind", (("call", None), ("tell", None)), TOP))
        self.check(PROGRAM, asides, ((1,), 1), ((1,), 2), ((1,), 0), ((1,), 2))
        self.check(PROGRAM, asides[::-1], ((1,), 1), ((1,), 0), ((1,), 2), ((1,), 0))

    def test_asides_that_are_not_opened(self):
        for test in (("n", 0), ("same", ONE, ("n", 2)), ("part", ONE, ("n", 0))):
            self.check(PROGRAM, (aside(4, "before", TELLS, TOP, test),))
        self.check(PROGRAM, (aside(4, "before", TELLS, ("none",)), aside(3, "behind", (("ask", None),))))
        self.check(PROGRAM, ())

    def test_around_without_on(self):
        asides = (aside(4, "around", TELLS, TOP), aside(5, "before", TELLS, TOP))
        self.check(PROGRAM, asides, ((1,), 0))

    def test_others_of_ons(self):
        for ons in (1, 2, 3):
            asides = (aside(4, "around", TELLS, TOP, ONE, (("on", 0, ()),) * ons), aside(5, "before", TELLS, TOP))
            # The letter of the around aside came on the pile since the moment began.
            self.check(PROGRAM, asides, ((1,), 0), *[((1,), 1)] * ons)
            asides = asides[:1] + (aside(6, "around", TELLS, TOP, ONE, (("on", 0, ()),) * 2), aside(5, "behind", TELLS, TOP))
            self.check(PROGRAM, asides, ((1,), 0), *([((1,), 1)] + [((1,), 2)] * 2) * ons)

    def test_an_aside_within_an_aside(self):
        inner = ("row", (("any",), ("letters", (-5,))))
        asides = (aside(4, "before", (("call", 0),), TOP, ONE, (TELL, ("get", 0, 0))), aside(3, "behind", TELLS, inner), aside(2, "around", (("get", 0),), EVERY, ONE, ()))
        self.check(PROGRAM, asides, ((1,), 0), ((1, -5), 1), ((1, -5), 2), ((1, 0), 2))

    def test_a_function_called_by_an_aside(self):
        asides = (aside(4, "before", TELLS, TOP, ONE, (("call", 1, 0, (ONE,)),)), aside(3, "before", (("get", 0),)))
        self.check(PROGRAM, asides, ((1, 0), 1), ((1,), 0), ((1, -5, 0), 1))

    def test_on_of_an_on_and_moments_between(self):
        # The around aside tells by itself between its ons; those moments are of their own.
        asides = (
            aside(4, "around", (("call", 0),), TOP, ONE, (("on", 0, ()), TELL, ("on", 0, ()))), aside(3, "before", TELLS, ("row", (EVERY, ("letters", (-5,))))),
            aside(2, "behind", (("call", 0),), TOP),
        )
        self.check(PROGRAM, asides, ((1,), 0), ((1,), 2), ((1, -5), 1), ((1,), 2))

    def test_negative_numbers_and_one_more(self):
        asides = (aside(4, "before", (("call", 0), ("tell", None)), TOP, ONE, (REST,)),)
        self.check(PROGRAM, asides, ((1,), 0), ((1,), 0))
        self.none(PROGRAM, asides, (), 99, -1, -2, 2, 3, 10 ** 30, -(10 ** 30))

    def test_fewer_steps(self):
        # call, rest of the aside, get, answer, tell, rest, put.
        asides = (aside(4, "before", (("call", 0), ("tell", None)), TOP, ONE, (REST,)),)
        for steps, many in ((0, 0), (1, 1), (2, 1), (4, 1), (5, 2), (6, 2), (9, 2)):
            self.check(PROGRAM, asides, *[((1,), 0)] * many, steps=steps)

    def test_states(self):
        below = ("row", (EVERY, ("letters", (1,)), ("letters", (0,))))
        asides = (aside(4, "before", (("get", 0),), below), aside(8, "before", (("tell", None),), ("row", (EVERY, ("any",)))))
        self.assertEqual(why(PROGRAM, asides, (), 99, 0), ((1, 0), 0, (2, 1)))
        self.assertEqual(why(PROGRAM, asides, (), 99, 1), ((1,), 1, (1, 1)))

    def test_too_many_states(self):
        for asides in ((aside(4, "before", TELLS, TOP), aside(5, "before", (("ask", None),), WINDOW)), (aside(5, "before", (("ask", None),), WINDOW), aside(4, "before", TELLS, TOP))):
            with self.assertRaises(TooMany) as caught:
                why(PROGRAM, asides, (), 99, 0)
            self.assertEqual(caught.exception.limit, 64)
            # What is no moment goes ahead.
            self.none(PROGRAM, asides, (), 99, 1, -1)
            self.none(PROGRAM, asides, (), 0, 0)

    def test_too_many_nodes_are_nothing(self):
        program = ((), ((0, (TELL, CALL)),))
        asides = counting(14, 13, 11) + (aside(9, "before", TELLS, TOP),)
        told = why(program, asides, (), 5000, 30)
        self.assertEqual((told[0], told[1]), ((0,) * 31, 3))

    def test_the_pile(self):
        program = ((), ((0, (TELL, CALL)),))
        asides = (aside(9, "before", TELLS, TOP, ONE, (REST,)),)
        with few_calls():
            # At sixty bodies the aside fits, but its body is not opened.
            self.check(program, asides, *[((0,) * (number + 1), 0) for number in range(59)], steps=5000)

    def test_made(self):
        opened = 0
        for seed in range(150):
            program, asides, _ = made(seed)
            source = random.Random(seed)
            inputs = tuple(source.choice(NUMBERS) for _ in range(source.randint(0, 5)))
            steps = source.choice((3, 20, 60))
            done = WhyOracle(program, asides, inputs, steps)
            places = {-1 - one[0]: place for place, one in enumerate(asides)}
            self.check(program, asides, *[(pile, places[letter]) for pile, letter in done.told], inputs=inputs, steps=steps)
            begun = moments(program, asides, inputs, steps)
            for number in range(len(done.told)):
                pile, place, states = why(program, asides, inputs, steps, number)
                self.assertTrue(any(row[3] == pile and place in row[4] for row in begun))
            opened += len(done.told)
        self.assertGreater(opened, 200)

    def test_by_name(self):
        asides = (aside(4, "before", TELLS, TOP),)
        told = why(PROGRAM, asides, (), 99, 0)
        self.assertEqual(why(number=0, steps=99, inputs=(), asides=asides, program=PROGRAM), told)
        self.assertEqual(told, ((1,), 0, states_at(PROGRAM, asides, (1,))))


class FirstUnlike(unittest.TestCase):
    def check(self, wanted, program, asides, others, inputs=(), steps=200):
        handed = (program, asides, others, inputs, steps)
        before = repr(handed)
        with self.subTest(asides=asides, others=others, steps=steps):
            self.assertEqual(repr(first_unlike(*handed)), repr(wanted))
            back = None if wanted is None else (wanted[0], wanted[2], wanted[1])
            self.assertEqual(repr(first_unlike(program, others, asides, inputs, steps)), repr(back))
            if wanted is None:
                self.assertEqual(run(program, asides, inputs, steps), run(program, others, inputs, steps))
            else:
                one, other = moments(program, asides, inputs, steps), moments(program, others, inputs, steps)
                self.assertEqual([row[:4] for row in one[:wanted[0] + 1]], [row[:4] for row in other[:wanted[0] + 1]])
                self.assertEqual((one[wanted[0]][4], other[wanted[0]][4]), wanted[1:])
            self.assertEqual(repr(handed), before)

    # The moments of PROGRAM by itself: the call, the get, the tell, the put.
    CALLED = aside(4, "before", (("call", 0),), TOP, SLOT, (REST,))
    TOLD = aside(5, "behind", TELLS, TOP, ONE, (REST,))
    GOT = aside(6, "around", (("get", None),), TOP, ONE, (("on", 0, ()), ("answer", SLOT)))

    def test_the_same_asides(self):
        for asides in ((), (self.CALLED,), (self.CALLED, self.TOLD), (self.GOT, self.TOLD, self.CALLED)):
            for steps in (0, 1, 3, 50):
                self.check(None, PROGRAM, asides, asides, steps=steps)

    def test_none_and_some(self):
        self.check((0, (0,), ()), PROGRAM, (self.CALLED,), ())
        self.check((1, (0,), ()), PROGRAM, (self.GOT,), ())
        self.check((2, (0,), ()), PROGRAM, (self.TOLD,), ())
        self.check((1, (1,), ()), PROGRAM, (self.TOLD, self.GOT), ())
        self.check((1, (1,), ()), PROGRAM, (self.TOLD, self.GOT, self.CALLED), (self.CALLED, self.TOLD))

    def test_other_orders(self):
        self.check(None, PROGRAM, (self.CALLED, self.TOLD, self.GOT), (self.GOT, self.CALLED, self.TOLD))
        both = aside(7, "before", TELLS + (("put", 0),), TOP, ONE, (REST,))
        self.check((2, (0, 1), (0, 1)), PROGRAM, (self.TOLD, both), (both, self.TOLD))
        self.check((2, (0, 2), (0, 1)), PROGRAM, (self.TOLD, self.CALLED, both), (both, self.TOLD, self.CALLED))

    def test_other_places_with_the_same_doings(self):
        self.check((3, (2,), ()), PROGRAM, (self.CALLED, self.TOLD, aside(7, "before", (("put", None),), TOP)), (self.TOLD, self.CALLED))

    def test_other_parts(self):
        for part, other in ((TOP, EVERY), (("any",), ("letters", (1,))), (("not", ("none",)), ("row", (("letters", (1, 0)), EVERY)))):
            self.check(None, PROGRAM, (aside(5, "before", TELLS, part),), (aside(5, "before", TELLS, other),))
        self.check((2, (0,), ()), PROGRAM, (aside(5, "before", TELLS, TOP),), (aside(5, "before", TELLS, ("letters", (0,))),))
        self.check((1, (), (0,)), PROGRAM, (aside(5, "before", (("get", 0),), ("letters", (1,))),), (aside(5, "before", (("get", 0),), ("row", (("any",), ("any",)))),))

    def test_other_moments(self):
        self.check(None, PROGRAM, (aside(5, "before", TELLS, TOP),), (aside(5, "before", (("ask", None),) + TELLS * 2, TOP),))
        self.check(None, PROGRAM, (aside(5, "before", (("get", 0),), TOP),), (aside(5, "before", (("get", None),), TOP),))
        self.check((0, (), (0,)), PROGRAM, (aside(5, "before", TELLS, TOP),), (aside(5, "before", TELLS + (("call", 0),), TOP),))

    def test_other_names_forms_tests_and_rows(self):
        for other in (with_item(self.TOLD, 0, 6), with_item(self.TOLD, 1, "before"), with_item(self.TOLD, 4, ("n", 2)), with_item(self.TOLD, 5, ()), with_item(self.TOLD, 5, (REST, REST))):
            self.check((2, (0,), (0,)), PROGRAM, (self.TOLD,), (other,))
            self.check((2, (1,), (0,)), PROGRAM, (self.CALLED, self.TOLD), (other, self.CALLED))

    def test_asides_that_are_passed_over_count(self):
        quiet = with_item(self.TOLD, 4, ("n", 0))
        self.check((2, (0,), ()), PROGRAM, (quiet,), ())
        self.check((2, (0,), (0,)), PROGRAM, (quiet,), (self.TOLD,))
        self.check(None, PROGRAM, (quiet,), (quiet,))

    def test_stopped_ahead_of_the_first_unlike_moment(self):
        # call, get, answer, tell: the tell begins with the fourth row.
        for steps in range(4):
            self.check(None, PROGRAM, (self.TOLD,), (), steps=steps)
        self.check((2, (0,), ()), PROGRAM, (self.TOLD,), (), steps=4)

    def test_within_asides(self):
        outer = aside(4, "before", (("call", 0),), TOP, ONE, (TELL,))
        inner = aside(5, "before", TELLS, ("row", (EVERY, ("letters", (-5,)))))
        self.check((1, (1,), ()), PROGRAM, (outer, inner), (outer,))
        # What an aside reads of the pile may be other letters: here those of another name.
        other = with_item(outer, 0, 8)
        self.check((0, (0,), (0,)), PROGRAM, (outer, inner), (other, inner))

    def test_inputs(self):
        program = ((), ((0, (("ask", 0), ("if", SLOT, (TELL,), ()))),))
        for inputs, wanted in (((), None), ((0,), None), ((3,), (1, (0,), ()))):
            self.check(wanted, program, (self.TOLD,), (), inputs)

    def test_many_states_are_nothing(self):
        window = (aside(5, "before", TELLS, WINDOW),)
        self.check(None, PROGRAM, window, ())
        self.check((0, (1,), ()), PROGRAM, window + (self.CALLED,), window)

    def test_made(self):
        unlike = 0
        for seed in range(200):
            program, asides, _ = made(seed)
            source = random.Random(seed)
            inputs = tuple(source.choice(NUMBERS) for _ in range(source.randint(0, 5)))
            others = list(asides)
            source.shuffle(others)
            if others and source.random() < 0.5:
                at = source.randrange(len(others))
                others[at] = with_item(others[at], 4, ("n", source.choice((0, 1))))
            others = tuple(others)
            doings = [[tuple((one[0], one[1], one[4], one[5]) for one in [listed[place] for place in row[4]]) for row in moments(program, listed, inputs, 60)] for listed in (asides, others)]
            wanted = None
            for number, (one, other) in enumerate(zip(*doings)):
                if one != other:
                    wanted = (number, moments(program, asides, inputs, 60)[number][4], moments(program, others, inputs, 60)[number][4])
                    unlike += 1
                    break
            self.check(wanted, program, asides, others, inputs, 60)
        self.assertGreater(unlike, 20)

    def test_by_name(self):
        named = dict(program=PROGRAM, asides=(self.TOLD,), others=(), inputs=(), steps=9)
        kept = copy.deepcopy(named)
        self.assertEqual(first_unlike(**dict(reversed(list(named.items())))), (2, (0,), ()))
        self.assertEqual(first_unlike(*kept.values()), (2, (0,), ()))


if __name__ == "__main__":
    unittest.main()
