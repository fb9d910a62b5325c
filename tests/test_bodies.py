"""What rows_of, letters_of and body_at tell: [A8], [A10]."""

import itertools
import unittest

from asidewoven.errors import AsideError, Unfit
from asidewoven.programs import asides_error, body_at, letters_of, program_error, rows_of
from samples import MAIN, ONE, REST, RIGHT_ONS, RIGHT_ROWS, program_of, wide, within_rows


def aside(name, rows=(), form="around"):
    return (name, form, (("tell", None),), ("any",), ONE, rows)


def told(number):
    """A row that tells a number, to know rows by."""
    return ("tell", ("n", number))


class RowsOf(unittest.TestCase):
    def check(self, rows, pairs):
        with self.subTest(rows=repr(rows)[:300]):
            self.assertEqual(repr(rows_of(rows)), repr(pairs))

    def test_none(self):
        self.check((), ())

    def test_rows_that_have_none_within(self):
        plain = tuple(row for row in RIGHT_ROWS + RIGHT_ONS if row[0] not in ("if", "try"))
        self.check(plain, tuple(((number,), row) for number, row in enumerate(plain)))

    def test_each_row_by_itself(self):
        for row in RIGHT_ROWS + RIGHT_ONS:
            self.assertEqual(rows_of((row,))[0], ((0,), row))

    def test_rows_of_if_and_try(self):
        branch = ("if", ONE, (told(1), told(2)), (told(3),))
        guard = ("try", (told(4),), (1, 2), 3, (told(5), told(6)))
        self.check((REST, branch, guard, REST), (
            ((0,), REST),
            ((1,), branch), ((1, 0, 0), told(1)), ((1, 0, 1), told(2)), ((1, 1, 0), told(3)),
            ((2,), guard), ((2, 0, 0), told(4)), ((2, 1, 0), told(5)), ((2, 1, 1), told(6)),
            ((3,), REST),
        ))

    def test_rows_within_rows_within_rows(self):
        inner = ("if", ONE, (told(1),), (told(2),))
        outer = ("try", (told(3), inner), (), 0, (inner, told(4)))
        self.check((outer, inner), (
            ((0,), outer),
            ((0, 0, 0), told(3)), ((0, 0, 1), inner), ((0, 0, 1, 0, 0), told(1)), ((0, 0, 1, 1, 0), told(2)),
            ((0, 1, 0), inner), ((0, 1, 0, 0, 0), told(1)), ((0, 1, 0, 1, 0), told(2)), ((0, 1, 1), told(4)),
            ((1,), inner), ((1, 0, 0), told(1)), ((1, 1, 0), told(2)),
        ))

    def test_four_within_one_another(self):
        for ways in itertools.product(((0, "if"), (1, "if"), (0, "try"), (1, "try")), repeat=4):
            pairs = rows_of((REST, within_rows(told(7), ways)))
            deepest = (1,) + tuple(number for which, _ in ways for number in (which, 0))
            self.assertEqual(len(pairs), 6)
            self.assertEqual(pairs[-1], (deepest, told(7)))
            self.assertEqual([place for place, _ in pairs[1:]], [deepest[:2 * at + 1] for at in range(5)])

    def test_places_ascend_also_from_the_tenth_on(self):
        many = tuple(told(number) for number in range(13))
        rows = (("if", ONE, many, many),) + many[:11] + (("try", many, (), 0, many),)
        places = [place for place, _ in rows_of(rows)]
        self.assertEqual(places, sorted(places))
        self.assertEqual(len(set(places)), 2 + 4 * 13 + 11)
        self.assertEqual(places[-1], (12, 1, 12))

    def test_a_tuple_of_pairs_of_a_tuple_and_a_row(self):
        pairs = rows_of((REST, ("if", ONE, (REST,), (REST,))))
        self.assertIs(pairs.__class__, tuple)
        for pair in pairs:
            self.assertIs(pair.__class__, tuple)
            self.assertIs(pair[0].__class__, tuple)
            self.assertIs(pair[1].__class__, tuple)

    def test_most_rows(self):
        self.assertEqual(rows_of((REST,) * 120), tuple(((number,), REST) for number in range(120)))

    def test_two_calls_tell_the_same(self):
        rows = (REST, ("if", ONE, (REST,), ()))
        self.assertEqual(rows_of(rows), rows_of(rows))
        self.assertEqual(len(rows_of(rows)), 3)


class LettersOf(unittest.TestCase):
    def check(self, program, asides, letters):
        self.assertIsNone(asides_error(program, asides))
        self.assertEqual(repr(letters_of(program, asides)), repr(letters))

    def test_functions_alone(self):
        for many in range(1, 13):
            self.check(((), ((0, ()),) * many), (), tuple(range(many)))

    def test_asides(self):
        one = program_of((), ())
        self.check(one, (aside(0),), (-1, 0, 1))
        self.check(one, (aside(99),), (-100, 0, 1))
        self.check(one, (aside(0), aside(1)), (-2, -1, 0, 1))
        self.check(one, (aside(1), aside(0)), (-2, -1, 0, 1))
        self.check(one, (aside(9), aside(10), aside(2)), (-11, -10, -3, 0, 1))

    def test_all_that_can_be(self):
        asides = tuple(aside(name) for name in (99, 0, 50, 1, 98, 12, 11, 10, 9, 8))
        letters = (-100, -99, -51, -13, -12, -11, -10, -9, -2, -1) + tuple(range(12))
        self.check(((), ((0, ()),) * 12), asides, letters)
        self.check(((), ((0, ()),) * 12), asides[::-1], letters)

    def test_forms_are_nothing(self):
        for form in ("before", "behind", "around"):
            self.check(((), ((0, ()),)), (aside(7, (), form),), (-8, 0))


class BodyAt(unittest.TestCase):
    PROGRAM = program_of((told(0),), (told(1), REST), (), ahead=((8, (told(3),)),))
    ASIDES = (aside(0, (told(4),)), aside(99, (told(5),), "before"), aside(7, ()), aside(3, (told(6), REST), "behind"))

    def test_functions(self):
        for letter, rows in enumerate(((told(3),), (told(0),), (told(1), REST), ())):
            self.assertEqual(repr(body_at(self.PROGRAM, self.ASIDES, letter)), repr(rows))
            self.assertEqual(repr(body_at(self.PROGRAM, (), letter)), repr(rows))

    def test_asides(self):
        for letter, rows in ((-1, (told(4),)), (-100, (told(5),)), (-8, ()), (-4, (told(6), REST))):
            self.assertEqual(repr(body_at(self.PROGRAM, self.ASIDES, letter)), repr(rows))
            self.assertEqual(repr(body_at(self.PROGRAM, self.ASIDES[::-1], letter)), repr(rows))

    def test_letters_that_nothing_has(self):
        for letter in (4, 5, 11, 12, -2, -3, -5, -7, -9, -99, -101, 100, 10 ** 399, -(10 ** 399)):
            self.check_unfit(self.PROGRAM, self.ASIDES, letter)

    def test_without_asides(self):
        for letter in (-1, -2, -4, -8, -100, -101, 4):
            self.check_unfit(self.PROGRAM, (), letter)

    def test_all_functions_and_no_further_one(self):
        program = program_of(*[(told(number),) for number in range(12)])
        for letter in range(12):
            self.assertEqual(body_at(program, (), letter), (told(letter),))
        self.check_unfit(program, (), 12)
        self.check_unfit(program, (), -1)
        self.check_unfit(program, (), -12)

    def check_unfit(self, program, asides, letter):
        with self.subTest(letter=letter):
            with self.assertRaises(AsideError) as caught:
                body_at(program, asides, letter)
            self.assertIs(caught.exception.__class__, Unfit)

    def test_each_letter_has_a_body(self):
        for letter in letters_of(self.PROGRAM, self.ASIDES):
            self.assertIs(body_at(self.PROGRAM, self.ASIDES, letter).__class__, tuple)

    def test_the_samples_are_right(self):
        self.assertIsNone(program_error(self.PROGRAM))
        self.assertIsNone(asides_error(self.PROGRAM, self.ASIDES))
        self.assertIsNone(program_error(wide()))
        self.assertEqual(len(wide()[1]), MAIN + 1)


if __name__ == "__main__":
    unittest.main()
