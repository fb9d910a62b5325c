"""What fits_at, states_at and settled tell: [D1] to [D4]."""

import random
import unittest

import oracle
from asidewoven.errors import AsideError, TooMany, Unfit
from asidewoven.fits import fits_at, settled, states_at
from asidewoven.piles import first_pile, has_pile, pile_machine
from asidewoven.programs import letters_of
from making import Making
from test_piles import ANY, EVERY, NONE, ZERO, window

ONE = ("n", 1)
KINDS = ("call", "get", "put", "tell", "ask")
PROGRAM = ((1, 2), ((0, ()), (1, ()), (0, ())))


def aside(name, moments, part=EVERY, form="before", test=ONE):
    return (name, form, moments, part, test, ())


def all_moments():
    for kind in KINDS:
        for number in (0, 1, 2, 3) if kind in ("call", "get", "put") else (None,):
            yield kind, number


class FitsAt(unittest.TestCase):
    def test_each_kind_by_itself(self):
        for kind, number in all_moments():
            one = aside(0, ((kind, number),))
            for other, further in all_moments():
                wanted = (0,) if (kind, number) == (other, further) else ()
                with self.subTest(kind=kind, number=number, other=other, further=further):
                    self.assertEqual(fits_at((one,), other, further, (0,)), wanted)

    def test_none_is_each_number(self):
        for kind in ("call", "get", "put"):
            one = aside(0, ((kind, None),))
            for other, number in all_moments():
                wanted = (0,) if kind == other else ()
                self.assertEqual(fits_at((one,), other, number, (0,)), wanted)
            self.assertEqual(fits_at((one,), kind, 10 ** 20, ()), (0,))

    def test_several_pairs(self):
        one = aside(0, (("get", 1), ("call", None), ("ask", None), ("call", 2), ("get", 1)))
        told = {pair: fits_at((one,), pair[0], pair[1], (2,)) for pair in all_moments()}
        wanted = {("get", 1), ("call", 0), ("call", 1), ("call", 2), ("call", 3), ("ask", None)}
        self.assertEqual({pair for pair, places in told.items() if places == (0,)}, wanted)
        self.assertEqual({places for places in told.values()}, {(), (0,)})

    def test_several_asides(self):
        tells, gets = (("tell", None),), (("get", None),)
        asides = (aside(4, tells), aside(1, gets), aside(0, tells, ("letters", (2,))), aside(3, tells, NONE), aside(9, tells))
        self.assertEqual(fits_at(asides, "tell", None, (2,)), (0, 2, 4))
        self.assertEqual(fits_at(asides, "tell", None, (2, 2)), (0, 4))
        self.assertEqual(fits_at(asides, "tell", None, ()), (0, 3, 4))
        self.assertEqual(fits_at(asides, "get", 0, ()), (1,))
        self.assertEqual(fits_at(asides, "put", 0, ()), ())
        self.assertEqual(fits_at((), "tell", None, (2,)), ())
        many = tuple(aside(name, tells) for name in range(10))
        self.assertEqual(fits_at(many, "tell", None, (0,)), tuple(range(10)))

    def test_tests_and_forms_are_nothing(self):
        for form in ("before", "behind", "around"):
            for test in (("n", 0), ("v", 0), ("part", ONE, ("n", 0))):
                self.assertEqual(fits_at((aside(0, (("ask", None),), EVERY, form, test),), "ask", None, ()), (0,))

    def test_any_letters_and_sixty_of_them(self):
        one = aside(0, (("ask", None),), ("row", (EVERY, ("letters", (3,)), ANY)))
        self.assertEqual(fits_at((one,), "ask", None, (10 ** 30,) * 58 + (3, -(10 ** 30))), (0,))
        self.assertEqual(fits_at((one,), "ask", None, (3,) * 58 + (4, 3)), ())

    def test_more_than_sixty_four_states(self):
        one = aside(0, (("ask", None),), window(9))
        self.assertEqual(fits_at((one,), "ask", None, (0,) * 10), (0,))
        self.assertEqual(fits_at((one,), "ask", None, (0,) * 9), ())

    def test_made_asides(self):
        for seed in range(100):
            making = Making(random.Random(seed))
            asides = making.asides(making.program(), 4)
            for pile in ((), (2,), (2, 0), (2, -1, 1), (2, 1, 0, -4)):
                for kind, number in all_moments():
                    wanted = oracle.fits(asides, kind, number, pile)
                    self.assertEqual(repr(fits_at(asides, kind, number, pile)), repr(wanted))

    def test_by_name(self):
        one = aside(0, (("get", 1),))
        self.assertEqual(fits_at(pile=(1,), number=1, kind="get", asides=(one,)), (0,))


class StatesAt(unittest.TestCase):
    def raised(self, wanted, *handed):
        with self.assertRaises(AsideError) as caught:
            states_at(*handed)
        self.assertIs(caught.exception.__class__, wanted.__class__)
        self.assertEqual(vars(caught.exception), vars(wanted))

    def test_by_the_machines(self):
        for seed in range(60):
            making = Making(random.Random(seed))
            program = making.program()
            asides = making.asides(program, 3)
            letters = letters_of(program, asides)
            for pile in ((), (2,), letters, letters[::-1], (2, letters[0], 1, 1, 0)):
                wanted = []
                for one in asides:
                    rows, _ = pile_machine(one[3], letters)
                    state = 0
                    for letter in pile:
                        state = rows[state][letters.index(letter)]
                    wanted.append(state)
                self.assertEqual(repr(states_at(program, asides, pile)), repr(tuple(wanted)))

    def test_over_the_letters_of_program_and_asides(self):
        # The letter -6 of the other aside is one that the part does not have, and the first of all letters.
        part = ("or", (("row", (("letters", (0, 1, 2, -5)), EVERY)), NONE))
        one = aside(4, (("tell", None),), part)
        self.assertEqual(states_at(PROGRAM, (one,), (2, -5)), (0,))
        self.assertEqual(states_at(PROGRAM, (one, aside(5, (("tell", None),))), (2, -5)), (2, 0))
        self.assertEqual(states_at(PROGRAM, (one, aside(5, (("tell", None),))), (-6, 2)), (1, 0))

    def test_none(self):
        self.assertEqual(states_at(PROGRAM, (), (0, 2, 1)), ())
        self.assertEqual(states_at(PROGRAM, (), ()), ())

    def test_sixty_letters(self):
        asides = (aside(0, (("ask", None),), ("star", ("row", (ANY,) * 7))), aside(1, (("ask", None),), window(2)))
        self.assertEqual(states_at(PROGRAM, asides, (2,) + (0,) * 59), (60 - 56, 7))

    def test_letters_that_are_none(self):
        one = aside(4, (("tell", None),), ("letters", (7, -9)))
        for letter in (3, 11, -1, -4, -6, 7, -9, 12, -101, 10 ** 30):
            self.raised(Unfit(), PROGRAM, (one,), (letter,))
            self.raised(Unfit(), PROGRAM, (one,), (0, 1, -5, letter, 2))
            self.raised(Unfit(), PROGRAM, (), (letter,))
        self.assertEqual(len(states_at(PROGRAM, (one,), (0, 1, 2, -5))), 1)

    def test_too_many_states(self):
        few, many = aside(0, (("tell", None),), window(5)), aside(1, (("tell", None),), window(6))
        self.assertEqual(states_at(PROGRAM, (few,), (1, 1)), (0,))
        self.raised(TooMany(64), PROGRAM, (few, many), ())
        self.raised(TooMany(64), PROGRAM, (many,), (0, 1))
        self.raised(Unfit(), PROGRAM, (many,), (0, 9))
        self.raised(Unfit(), PROGRAM, (many, few), (-3,))

    def test_by_name(self):
        one = aside(4, (("tell", None),), window(2))
        self.assertEqual(states_at(pile=(0, 1), asides=(one,), program=PROGRAM), states_at(PROGRAM, (one,), (0, 1)))


class Settled(unittest.TestCase):
    def test_words(self):
        tells = (("tell", None),)
        for part, word in (
            (EVERY, "always"), (("not", EVERY), "never"), (NONE, "pile"), (ANY, "pile"), (ZERO, "pile"),
            (("letters", ()), "never"), (("letters", (7,)), "never"), (("letters", (-1,)), "pile"),
            (("star", ("letters", (-1, 0, 1, 2))), "always"), (("star", ("letters", (0, 1, 2))), "pile"),
            (("or", (NONE, ("row", (ANY, EVERY)))), "always"), (("and", (NONE, ANY)), "never"),
            (("not", NONE), "pile"), (("not", ("letters", (7,))), "always"), (window(3), "pile"),
        ):
            with self.subTest(part=part):
                one = aside(0, tells, part)
                self.assertEqual(settled(PROGRAM, (one,), "tell", None), (word,))
                self.assertEqual(settled(PROGRAM, (one,), "ask", None), ("never",))

    def test_moments(self):
        one = aside(3, (("call", 1), ("get", None), ("ask", None)))
        for kind, number in all_moments():
            fitting = (kind, number) == ("call", 1) or kind in ("get", "ask")
            self.assertEqual(settled(PROGRAM, (one,), kind, number), ("always" if fitting else "never",))

    def test_several_asides(self):
        tells = (("tell", None),)
        asides = (aside(3, tells), aside(0, tells, NONE), aside(2, (("ask", None),)), aside(1, tells, ("not", EVERY)))
        self.assertEqual(settled(PROGRAM, asides, "tell", None), ("always", "pile", "never", "never"))
        self.assertEqual(settled(PROGRAM, (), "tell", None), ())

    def test_more_than_sixty_four_states(self):
        for part, word in (
            (window(9), "pile"), (("not", window(9)), "pile"), (("or", (EVERY, window(8))), "always"),
            (("and", (("not", EVERY), window(8))), "never"), (("and", (NONE, window(9))), "never"),
        ):
            self.assertEqual(settled(PROGRAM, (aside(3, (("ask", None),), part),), "ask", None), (word,))

    def test_made_asides(self):
        for seed in range(100):
            making = Making(random.Random(seed))
            program = making.program()
            asides = making.asides(program, 3)
            letters = letters_of(program, asides)
            for kind, number in all_moments():
                wanted = []
                for place, one in enumerate(asides):
                    fitting = bool({(kind, number), (kind, None)} & set(one[2]))
                    if not fitting or first_pile(one[3], letters) is None:
                        wanted.append("never")
                    else:
                        wanted.append("always" if first_pile(("not", one[3]), letters) is None else "pile")
                self.assertEqual(settled(program, asides, kind, number), tuple(wanted))

    def test_by_name(self):
        self.assertEqual(settled(number=0, kind="get", asides=(aside(1, (("get", 0),)),), program=PROGRAM), ("always",))


class WhatFitsHangOn(unittest.TestCase):
    def test_by_moment_and_states_alone(self):
        for seed in range(16):
            making = Making(random.Random(seed))
            program = making.program()
            asides = making.asides(program, 3)
            letters = letters_of(program, asides)
            machines = [pile_machine(one[3], letters) for one in asides]
            seen = {}
            for many in range(5):
                for _ in range(12):
                    pile = tuple(making.source.choice(letters) for _ in range(many))
                    states = states_at(program, asides, pile)
                    for kind, number in all_moments():
                        told = fits_at(asides, kind, number, pile)
                        self.assertEqual(seen.setdefault((states, kind, number), told), told)
                    for one, (_, fits), state in zip(asides, machines, states):
                        self.assertIs(has_pile(one[3], pile), fits[state])
                    further = {letter: states_at(program, asides, pile + (letter,)) for letter in letters}
                    self.assertEqual(seen.setdefault(states, further), further)


if __name__ == "__main__":
    unittest.main()
