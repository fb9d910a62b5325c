"""What has_pile, pile_machine, unlike_pile and first_pile tell: [C1] to [C4]."""

import itertools
import random
import unittest

import oracle
from asidewoven.errors import AsideError, TooMany
from asidewoven.piles import first_pile, has_pile, pile_machine, unlike_pile
from making import Making

NONE, ANY, EVERY = ("none",), ("any",), ("star", ("any",))
ZERO, ONE = ("letters", (0,)), ("letters", (1,))

# Parts of each word, and of each word within others.
PARTS = (
    NONE, ANY, EVERY, ZERO, ("letters", ()), ("letters", (1, 0, 1)), ("letters", (-3, 5)),
    ("row", (ZERO,)), ("row", (ZERO, ONE)), ("row", (NONE, ZERO, NONE)), ("row", (EVERY, ZERO)), ("row", (ZERO, EVERY)),
    ("row", (EVERY, ZERO, EVERY)), ("row", (("star", ZERO), ("star", ONE))), ("row", (EVERY, EVERY)),
    ("row", (("or", (NONE, ZERO)), ("or", (NONE, ZERO)), ONE)), ("row", (("letters", ()), EVERY)),
    ("row", (ANY, ("row", (ZERO, ("row", (ONE, NONE)))), ANY)), ("row", (("not", ZERO), ("not", ONE))),
    ("or", (ZERO,)), ("or", (ZERO, ONE)), ("or", (NONE, ("row", (ZERO, ONE)))), ("or", (EVERY, ZERO)),
    ("and", (ZERO,)), ("and", (ZERO, ONE)), ("and", (ANY, ("letters", (0, -3)))), ("and", (NONE, ANY)),
    ("and", (("row", (EVERY, ZERO, EVERY)), ("row", (EVERY, ONE, EVERY)), ("not", ("row", (ANY, ANY))))),
    ("not", NONE), ("not", ANY), ("not", ZERO), ("not", EVERY), ("not", ("letters", ())), ("not", ("not", ZERO)),
    ("star", NONE), ("star", ZERO), ("star", ("row", (ZERO, ONE))), ("star", ("row", (ANY, ANY, ANY))),
    ("star", ("letters", ())), ("star", ("star", ZERO)), ("star", ("or", (ZERO, ("row", (ONE, ONE))))),
    ("star", ("not", ZERO)), ("star", ("row", (ZERO, EVERY))), ("star", ("row", (ANY, ("star", ZERO), ONE))),
    ("star", ("or", (("row", (ZERO, ZERO)), ("row", (ZERO, ZERO, ZERO))))),
    ("not", ("star", ("and", (("not", NONE), ("row", (ZERO, EVERY, ONE)))))),
    ("row", (EVERY, ZERO, ANY)), ("row", (EVERY, ZERO, ANY, ANY)),
    ("or", (("star", ("row", (ANY, ANY))), ("star", ("row", (ANY, ANY, ANY))))),
    ("and", (("star", ("row", (ANY, ANY))), ("star", ("row", (ANY, ANY, ANY))))),
)


def window(many):
    """The part of the piles in which 0 is the letter above which there are so many ones; 2 ** (many + 1) states."""
    return ("row", (EVERY, ZERO) + (ANY,) * many)


def piles(letters, most):
    """All piles of at most so many of the letters, the first ones ahead."""
    for many in range(most + 1):
        yield from itertools.product(letters, repeat=many)


def made_parts(seeds):
    for seed in seeds:
        yield Making(random.Random(seed)).part((-3, 0, 1, 5), 9)


class HasPile(unittest.TestCase):
    def test_by_the_rules(self):
        for part in PARTS:
            for pile in piles((-3, 0, 1), 4):
                with self.subTest(part=part, pile=pile):
                    self.assertIs(has_pile(part, pile), oracle.has(part, pile))

    def test_made_parts(self):
        for part in made_parts(range(150)):
            for pile in piles((-3, 0, 1), 3):
                with self.subTest(part=part, pile=pile):
                    self.assertIs(has_pile(part, pile), oracle.has(part, pile))
            self.assertIs(has_pile(part, (0, 1, 0, -3, 5, 0)), oracle.has(part, (0, 1, 0, -3, 5, 0)))

    def test_the_empty_pile(self):
        for part in (NONE, EVERY, ("star", ("letters", ())), ("not", ANY), ("row", (NONE, EVERY)), ("or", (ZERO, NONE))):
            self.assertIs(has_pile(part, ()), True)
        for part in (ANY, ZERO, ("letters", ()), ("not", NONE), ("row", (EVERY, ANY)), ("and", (NONE, ANY))):
            self.assertIs(has_pile(part, ()), False)

    def test_letters_that_nobody_names(self):
        far = 10 ** 30
        self.assertIs(has_pile(ANY, (far,)), True)
        self.assertIs(has_pile(("not", ZERO), (-far,)), True)
        self.assertIs(has_pile(("row", (EVERY, ZERO, ANY)), (far, 0, -far)), True)
        self.assertIs(has_pile(("row", (EVERY, ZERO, ANY)), (far, -far, 0)), False)
        self.assertIs(has_pile(("letters", (12, -101)), (0,)), False)

    def test_the_bottom_is_the_first_letter(self):
        self.assertIs(has_pile(("row", (ZERO, EVERY)), (0, 1, 1)), True)
        self.assertIs(has_pile(("row", (ZERO, EVERY)), (1, 1, 0)), False)

    def test_sixty_letters(self):
        self.assertIs(has_pile(("star", ("row", (ANY,) * 6)), (0, 1) * 30), True)
        self.assertIs(has_pile(("star", ("row", (ANY,) * 7)), (0, 1) * 30), False)
        self.assertIs(has_pile(EVERY, tuple(range(60))), True)
        self.assertIs(has_pile(window(12), (1,) * 47 + (0,) + (1,) * 12), True)
        self.assertIs(has_pile(window(12), (0,) * 47 + (1,) + (0,) * 12), False)
        self.assertIs(has_pile(("star", ("or", (("row", (ZERO, ONE)), ("row", (ZERO, ONE, ZERO))))), (0, 1) * 29 + (0, 0)), False)
        self.assertIs(has_pile(("star", ("row", (("star", ("not", ZERO)), ("star", ONE), ANY))), (1, 0) * 30), True)
        self.assertIs(has_pile(("row", (EVERY, ONE, EVERY)), (0,) * 61), False)


class PileMachine(unittest.TestCase):
    def check(self, part, letters, most=5):
        """The machine has the piles that the part has, no two states alike, and states numbered as they come."""
        with self.subTest(part=part, letters=letters):
            machine = pile_machine(part, letters)
            self.assertIs(machine.__class__, tuple)
            rows, fits = machine
            self.check_form(rows, fits, letters)
            for pile in piles(letters, most if len(letters) < 4 else 2):
                state = 0
                for letter in pile:
                    state = rows[state][letters.index(letter)]
                self.assertIs(fits[state], oracle.has(part, pile))
            self.check_numbers(rows)
            self.check_least(rows, fits)

    def check_form(self, rows, fits, letters):
        self.assertIs(rows.__class__, tuple)
        self.assertIs(fits.__class__, tuple)
        self.assertEqual(len(rows), len(fits))
        for row in rows:
            self.assertIs(row.__class__, tuple)
            self.assertEqual(len(row), len(letters))
            self.assertTrue(all(state.__class__ is int for state in row))
        self.assertTrue(all(fit.__class__ is bool for fit in fits))

    def check_numbers(self, rows):
        come = [0]
        for state in come:
            come.extend(sorted(set(rows[state]) - set(come), key=rows[state].index))
        self.assertEqual(come, list(range(len(rows))))

    def check_least(self, rows, fits):
        marks = list(fits)
        for _ in rows:
            marks = [(marks[state],) + tuple(marks[further] for further in row) for state, row in enumerate(rows)]
            numbers = {mark: number for number, mark in enumerate(dict.fromkeys(marks))}
            marks = [numbers[mark] for mark in marks]
        self.assertEqual(len(set(marks)), len(rows))

    def test_each_part(self):
        for part in PARTS:
            for letters in ((), (0,), (-3, 0), (0, 1), (-3, 0, 1)):
                self.check(part, letters, 4)

    def test_made_parts(self):
        for part in made_parts(range(1000, 1150)):
            self.check(part, (0, 1), 4)
            self.check(part, (-3, 0, 1), 3)

    def test_letters_in_other_orders_of_coming(self):
        part = ("or", (("row", (("letters", (5,)), ZERO)), ("row", (ONE, ONE, ANY))))
        for letters in ((0, 1, 5), (0, 5), (1, 5), (-7, 0, 1, 2, 5, 9)):
            self.check(part, letters, 3)
        self.assertEqual(pile_machine(("letters", (1,)), (0, 1)), (((1, 2), (1, 1), (1, 1)), (False, False, True)))

    def test_no_letters(self):
        for part in PARTS:
            self.assertEqual(pile_machine(part, ()), (((),), (oracle.has(part, ()),)))

    def test_forty_letters(self):
        letters = tuple(range(-29, 11))
        self.assertEqual(pile_machine(EVERY, letters), (((0,) * 40,), (True,)))
        part = ("row", (EVERY, ("letters", (-29, 3, 10)), ANY))
        rows, fits = pile_machine(part, letters)
        self.check(part, letters)
        self.assertEqual(rows[0], tuple(1 if letter in (-29, 3, 10) else 0 for letter in letters))
        self.assertEqual(len(rows), 4)

    def test_sixty_four_states_and_more(self):
        self.check(window(5), (0, 1), 7)
        self.assertEqual(len(pile_machine(window(5), (0, 1))[0]), 64)
        self.assertEqual(len(pile_machine(("not", window(5)), (0, 1))[0]), 64)
        self.assertEqual(len(pile_machine(("or", (NONE, window(5))), (0, 1))[0]), 64)
        for part, letters in (
            (("row", (ANY,) + window(5)[1]), (0, 1)), (window(6), (0, 1)), (("not", window(6)), (-1, 0)), (window(9), (0, 1)),
            (window(12), (0, 1)), (window(12), tuple(range(-5, 35))),
        ):
            with self.subTest(part=part):
                with self.assertRaises(AsideError) as caught:
                    pile_machine(part, letters)
                self.assertIs(caught.exception.__class__, TooMany)
                self.assertEqual(repr(caught.exception.limit), "64")

    def test_states_that_are_within_others(self):
        # Unlike ways to have cut a pile can be very many, and most of them make no difference.
        inner = ("row", (("star", ZERO), ZERO, ("star", ("row", (ANY, ANY, ("letters", (0, 1)), ANY))), ANY))
        for part in (
            ("row", (("not", ANY), ONE, inner, ZERO)), ("star", ("row", (inner, ONE))), ("star", ("row", (("not", ANY), inner))),
            ("row", (("not", ZERO), inner, ("or", (ZERO, ("row", (ONE, ONE)))))), ("row", (("star", ("or", (ZERO, inner))), ONE)),
        ):
            self.check(part, (0, 1), 7)
        self.assertEqual(len(pile_machine(("row", (("not", ANY), ONE, inner, ZERO)), (0, 1))[0]), 24)

    def test_very_many_states(self):
        some = ("letters", (0, 1))
        for part in (
            ("star", ("row", (("row", (some, ("not", some), ANY, ZERO, ("row", (ANY, ANY, ANY)), ANY, ANY)), ANY, ANY))),
            ("star", ("row", (some, ("not", ANY), ZERO, ("row", (some, ANY, ("row", (ANY, some, ANY, ANY)), some)), some))),
            ("row", (("not", ANY), ONE, ("star", ("row", (("row", (("star", ONE), ANY, ANY, ANY, some)), some, some))), ANY)),
        ):
            with self.assertRaises(TooMany):
                pile_machine(part, (0, 1))

    def test_many_states_on_the_way_to_few(self):
        self.assertEqual(pile_machine(window(12), (0,))[1], (False,) * 13 + (True,))
        self.assertEqual(pile_machine(window(12), (1,)), (((0,),), (False,)))
        self.assertEqual(pile_machine(("or", (EVERY, window(9))), (0, 1)), (((0, 0),), (True,)))
        self.assertEqual(len(pile_machine(("and", (window(8), NONE)), (0, 1))[0]), 1)
        self.assertEqual(len(pile_machine(("and", (("row", (ANY,) * 5), window(4))), (0, 1))[0]), 7)

    def test_as_many_parts_as_can_be(self):
        self.assertEqual(len(pile_machine(("row", (ANY,) * 15), (0, 1))[0]), 17)
        self.assertEqual(len(pile_machine(("star", ("row", (ANY,) * 14)), (0, 1))[0]), 14)


class FirstPiles(unittest.TestCase):
    def test_first_pile_by_the_rules(self):
        for part in PARTS + tuple(made_parts(range(2000, 2100))):
            for letters in ((), (1,), (-3, 0, 1)):
                with self.subTest(part=part, letters=letters):
                    self.check_first(first_pile(part, letters), lambda pile: oracle.has(part, pile), letters)

    def test_unlike_pile_by_the_rules(self):
        for part, other in itertools.product(PARTS, PARTS[::3]):
            with self.subTest(part=part, other=other):
                told = unlike_pile(part, other, (0, 1))
                self.check_first(told, lambda pile: oracle.has(part, pile) != oracle.has(other, pile), (0, 1))
                self.assertEqual(unlike_pile(other, part, (0, 1)), told)

    def check_first(self, told, is_one, letters):
        """told is the first of these piles; of those with more than 4 letters only whether it is one is asked."""
        found = [pile for pile in piles(letters, 4) if is_one(pile)][:1]
        if told is None or len(told) <= 4:
            self.assertEqual(repr(told), repr(found[0] if found else None))
        else:
            self.assertEqual(found, [])
            self.assertTrue(is_one(told))

    def test_the_fewest_letters_go_ahead(self):
        self.assertEqual(first_pile(("or", (("row", (ZERO, ZERO)), ONE)), (0, 1)), (1,))
        self.assertEqual(first_pile(("or", (("row", (ONE, ZERO)), ("row", (ZERO, ONE)))), (0, 1)), (0, 1))
        self.assertEqual(first_pile(("or", (("row", (ONE, ZERO)), ("row", (ONE, ONE)))), (-2, 0, 1)), (1, 0))
        self.assertEqual(first_pile(("row", (ANY, ONE, ANY)), (-3, 0, 1, 2)), (-3, 1, -3))

    def test_longer_ones(self):
        self.assertEqual(first_pile(("row", (ANY,) * 15), (3, 4)), (3,) * 15)
        part, other = ("star", ("row", (ANY,) * 5)), ("star", ("row", (ANY,) * 4))
        self.assertEqual(unlike_pile(part, other, (0, 1)), (0,) * 4)
        self.assertEqual(first_pile(("and", (part, other, ("not", NONE))), (0, 1)), (0,) * 20)
        self.assertEqual(first_pile(("and", (part, other, ("row", (EVERY, ONE)))), (0, 1)), (0,) * 19 + (1,))
        self.assertEqual(unlike_pile(("row", (part, ONE)), ("row", (EVERY, ONE)), (0, 1)), (0, 1))

    def test_more_than_sixty_four_states(self):
        self.assertEqual(first_pile(window(10), (0, 1)), (0,) * 11)
        self.assertEqual(first_pile(window(10), (0, 1, 2, 3)), (0,) * 11)
        self.assertEqual(first_pile(("row", (EVERY, ONE) + (ANY,) * 8), (0, 1)), (1,) + (0,) * 8)
        self.assertIsNone(first_pile(window(8), (1, 2)))
        self.assertIsNone(unlike_pile(window(9), ("row", (EVERY, ZERO) + (("or", (ANY,)),) * 3 + (ANY,) * 6), (0, 1)))
        self.assertEqual(unlike_pile(window(9), window(8), (0, 1)), (0,) * 9)
        self.assertEqual(
            unlike_pile(window(8), ("row", (EVERY, ZERO, ("letters", (0, 1))) + (ANY,) * 7), (0, 1, 2)),
            (0, 2) + (0,) * 7,
        )

    def test_no_letters_and_forty(self):
        self.assertEqual(first_pile(EVERY, ()), ())
        self.assertIsNone(first_pile(ANY, ()))
        self.assertIsNone(unlike_pile(ANY, ("letters", ()), ()))
        self.assertEqual(unlike_pile(NONE, ANY, ()), ())
        letters = tuple(range(-29, 11))
        self.assertEqual(first_pile(("row", (ANY, ("letters", (10, 9)), ANY)), letters), (-29, 9, -29))
        self.assertIsNone(unlike_pile(ANY, ("letters", letters), letters))
        self.assertEqual(unlike_pile(ANY, ("letters", letters[:-1]), letters), (10,))

    def test_of_these_letters_alone(self):
        self.assertIsNone(first_pile(ONE, (0, 2)))
        self.assertIsNone(unlike_pile(ZERO, ANY, (0,)))
        self.assertEqual(unlike_pile(ZERO, ANY, (0, 7)), (7,))


class Calls(unittest.TestCase):
    def test_the_same_again_by_place_and_by_name(self):
        for part in PARTS:
            before = repr(part)
            for _ in range(2):
                self.assertEqual(has_pile(part=part, pile=(0, 1)), has_pile(part, (0, 1)))
                self.assertEqual(pile_machine(letters=(0, 1), part=part), pile_machine(part, (0, 1)))
                self.assertEqual(first_pile(part=part, letters=(0, 1)), first_pile(part, (0, 1)))
                self.assertEqual(unlike_pile(letters=(0, 1), part=part, other=ZERO), unlike_pile(part, ZERO, (0, 1)))
            self.assertEqual(repr(part), before)


if __name__ == "__main__":
    unittest.main()
