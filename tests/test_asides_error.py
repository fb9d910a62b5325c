"""What asides_error tells: [A5], [A7], [A8], [A9]."""

import itertools
import unittest

from asidewoven.programs import asides_error
from samples import (
    MAIN, NEVER, NO_INTEGERS, NO_TUPLES, ONE, REST, RIGHT_EXPRESSIONS, RIGHT_ONS, RIGHT_ROWS, WRONG_EXPRESSIONS,
    WRONG_ROWS, nested, wide, with_item, within_rows,
)

# Cells 0 and 1; functions 0 to 3 and the main one, 4.
PROGRAM = wide()
BARE = ((), ((0, ()),))
FORMS = ("before", "behind", "around")
WAYS = ((0, "if"), (1, "if"), (0, "try"), (1, "try"))


def aside(name=0, form="before", moments=(("tell", None),), part=("any",), test=ONE, rows=()):
    return (name, form, moments, part, test, rows)


class Telling(unittest.TestCase):
    def check(self, asides, told, program=PROGRAM):
        """repr tells 1 from True and a tuple from a list, as == does not."""
        with self.subTest(asides=repr(asides)[:300]):
            self.assertEqual(repr(asides_error(program, asides)), repr(told))

    def check_item(self, item, word):
        """Of an aside by itself, and behind two right ones."""
        self.check((item,), None if word is None else (0, word))
        self.check((aside(98), aside(97), item), None if word is None else (2, word))


class Forms(Telling):
    def test_many_asides(self):
        for many in (0, 1, 2, 9, 10):
            self.check(tuple(aside(name) for name in range(many)), None)
        for many in (11, 12, 40):
            self.check(tuple(aside(name) for name in range(many)), "form")

    def test_what_is_no_tuple(self):
        for value in NO_TUPLES + ([aside()], {aside(): 0}, {0: aside()}):
            self.check(value, "form")

    def test_form_goes_ahead_of_all_else(self):
        self.check((None,) * 11, "form")
        self.check((aside(),) * 11, "form")

    def test_an_aside_by_itself_is_no_tuple_of_asides(self):
        self.check(aside(), (0, "aside"))


class Asides(Telling):
    def test_what_is_no_sextuple(self):
        for item in NEVER + NO_TUPLES + ((), aside()[:5], aside()[1:], aside() + ((),), list(aside()), (aside(),)):
            self.check_item(item, "aside")

    def test_names(self):
        for name in range(97):
            self.check_item(aside(name), None)
        for name in (97, 98, 99):
            self.check((aside(name),), None)
        for name in (-1, 100, 101, -100, 10 ** 399):
            self.check_item(aside(name), "aside")

    def test_names_of_other_kinds(self):
        for name in NO_INTEGERS:
            self.check_item(aside(name), "aside")

    def test_forms(self):
        for form in FORMS:
            self.check_item(aside(form=form), None)
        for form in NEVER + ("Before", "before ", "befor", "after", "on", "call", (), ("before",), ["before"], {"before": 0}):
            self.check_item(aside(form=form), "aside")

    def test_the_first_word(self):
        wrong = [100, "before", (), (), (), (None,)]
        right = aside()
        for at, word in enumerate(("aside", None, "moments", "part", "test", "rows")):
            if word is not None:
                self.check_item(right[:at] + tuple(wrong[at:]), word)
                self.check_item(with_item(right, at, wrong[at]), word)
        self.check_item(("none",) + (0, "before", (), (), ()), "aside")
        self.check_item((0, None, None, None, None, None), "aside")

    def test_each_two_words(self):
        wrong = (-1, "before", (("tell", 0),), ("row", ()), ("v", 8), (("on", 0, ()),))
        words = ("aside", None, "moments", "part", "test", "rows")
        for one, two in itertools.combinations((0, 2, 3, 4, 5), 2):
            item = with_item(with_item(aside(), one, wrong[one]), two, wrong[two])
            self.check_item(item, words[one])

    def test_the_least_place_goes_ahead_of_the_word(self):
        self.check((aside(0), aside(1, rows=(None,)), aside(2, moments=()), None), (1, "rows"))
        self.check((aside(0, test=None), (), aside(2, part=None)), (0, "test"))
        for at in range(10):
            items = [aside(name) for name in range(10)]
            items[at] = None
            self.check(tuple(items), (at, "aside"))


class Names(Telling):
    def test_two_with_one_name(self):
        self.check((aside(3), aside(3)), (1, "name"))
        self.check((aside(3), aside(4), aside(3)), (2, "name"))
        self.check((aside(3), aside(4), aside(4), aside(3)), (2, "name"))
        self.check((aside(3), aside(4), aside(5), aside(4), aside(3)), (3, "name"))
        self.check((aside(0), aside(0), aside(0)), (1, "name"))

    def test_first_and_last_of_ten(self):
        self.check(tuple(aside(name) for name in range(9)) + (aside(0),), (9, "name"))

    def test_unlike_asides_with_one_name(self):
        self.check((aside(3), aside(3, "around", (("ask", None),), ("none",), ("n", 0), (REST,))), (1, "name"))

    def test_names_need_not_ascend(self):
        self.check((aside(99), aside(0), aside(50)), None)

    def test_all_else_goes_ahead(self):
        self.check((aside(3), aside(3), aside(4, rows=None)), (2, "rows"))
        self.check((aside(3), aside(3, moments=())), (1, "moments"))
        self.check((aside(3), aside(3), None), (2, "aside"))


class Moments(Telling):
    def test_right_ones(self):
        ones = [(word, None) for word in ("call", "get", "put", "tell", "ask")]
        ones += [("call", f) for f in range(MAIN + 1)] + [(word, cell) for word in ("get", "put") for cell in (0, 1)]
        for moment in ones:
            self.check_item(aside(moments=(moment,)), None)
        self.check_item(aside(moments=tuple(ones)), None)
        self.check_item(aside(moments=tuple(ones) * 20), None)
        self.check_item(aside(moments=(("tell", None),) * 3), None)

    def test_without_cells(self):
        for word in ("get", "put"):
            self.check((aside(moments=((word, None),)),), None, BARE)
            self.check((aside(moments=((word, 0),)),), (0, "moments"), BARE)
        self.check((aside(moments=(("call", 0),)),), None, BARE)
        self.check((aside(moments=(("call", 1),)),), (0, "moments"), BARE)

    def test_places_of_cells_and_functions(self):
        for cells in range(9):
            for functions in (1, 5, 12):
                program = ((0,) * cells, ((0, ()),) * functions)
                for number in range(14):
                    told = None if number < functions else (0, "moments")
                    self.check((aside(moments=(("call", number),)),), told, program)
                    told = None if number < cells else (0, "moments")
                    self.check((aside(moments=(("get", number),)),), told, program)
                    self.check((aside(moments=(("put", number),)),), told, program)

    def test_wrong_ones(self):
        ones = (
            (), ("tell",), ("tell", 0), ("ask", 0), ("tell", None, None), ("call",), ("call", 0, 0), ("call", -1),
            ("call", MAIN + 1), ("get", 2), ("put", 2), ("get", -1), ("put", 10 ** 399), ("set", 0), ("rest", None),
            ("on", None), ("Call", 0), ("", None), (None, None), (0, 0), (["call"], 0), ({"call": 0}, None),
            (("call",), None), ["call", 0], ["tell", None], (None, "tell"), (0, "call"), ("tell", "None"), ("tell", ()),
            ("ask", False), ("tell", True),
        ) + NEVER
        for moment in ones:
            self.check_item(aside(moments=(moment,)), "moments")
            self.check_item(aside(moments=(("tell", None), moment)), "moments")
            self.check_item(aside(moments=(moment, ("tell", None))), "moments")

    def test_numbers_of_other_kinds(self):
        for number in NO_INTEGERS:
            if number is not None:
                for word in ("call", "get", "put", "tell", "ask"):
                    self.check_item(aside(moments=((word, number),)), "moments")

    def test_no_tuple_of_pairs(self):
        for moments in NO_TUPLES + ((), ("tell", None), [("tell", None)], {("tell", None): 0}):
            self.check_item(aside(moments=moments), "moments")


def not_deep(depth, words=("not", "star", "row", "or", "and")):
    """A pile part that is nested so deep, with these words in turn from outside."""
    part = ("any",)
    for at in range(depth - 1):
        word = words[(depth - 2 - at) % len(words)]
        part = (word, part if word in ("not", "star") else (part,))
    return part


class Parts(Telling):
    ANY, NONE = ("any",), ("none",)

    def test_right_ones(self):
        some = ("letters", (1, -4))
        for part in (
            self.ANY, self.NONE, ("letters", ()), some, ("letters", (1, 1, 0, 1)), ("letters", (11, 10, -100)),
            ("row", (self.ANY,)), ("or", (some, self.NONE)), ("and", (some, some, some)), ("not", some), ("star", some),
            ("row", (self.ANY, ("or", (("not", self.NONE), ("star", some))), self.NONE)), ("star", ("star", self.NONE)),
            ("not", ("row", (self.ANY,))), ("letters", tuple(range(-100, 12))), ("letters", (0,) * 400),
        ):
            self.check_item(aside(part=part), None)

    def test_letters(self):
        for letter in range(-100, 12):
            self.check_item(aside(part=("letters", (letter,))), None)
        for letter in (-101, 12, 13, 100, -1000, 10 ** 18, 10 ** 399, -(10 ** 399)):
            self.check_item(aside(part=("letters", (letter,))), "part")
            self.check_item(aside(part=("letters", (0, letter))), "part")
            self.check_item(aside(part=("not", ("letters", (letter, 0)))), "part")

    def test_letters_that_nothing_has(self):
        self.check((aside(part=("letters", (7, -50))),), None, BARE)

    def test_letters_of_other_kinds(self):
        for letter in NO_INTEGERS:
            self.check_item(aside(part=("letters", (letter,))), "part")
            self.check_item(aside(part=("letters", (0, letter, 0))), "part")
        for letters in NO_TUPLES:
            self.check_item(aside(part=("letters", letters)), "part")

    def wrong_parts(self):
        any_part = self.ANY
        ones = [
            (), ("none", ()), ("any", ()), ("any", any_part), ("none", None), ("letters",), ("letters", (), ()),
            ("letters", 0, 1), ("row",), ("row", ()), ("or", ()), ("and", ()), ("row", any_part), ("or", any_part),
            ("and", ("not", any_part)), ("row", (any_part,), (any_part,)), ("row", any_part, any_part), ("not",),
            ("not", ()), ("star", ()), ("not", (any_part,)), ("star", (any_part, any_part)), ("star", any_part, any_part),
            ("star", "any"), ("not", "none"), ("row", ("any", "any")), ("row", "any"), ("or", [any_part]),
            ("and", {any_part: 0}), ["any"], ["row", (any_part,)], ("not", ["any"]), ("Any",), ("all",), ("",),
            ("any ",), "any", "none", ("plus", any_part), ("plus", (any_part,)), ("n", 1), (any_part,), (["any"],),
            ({"any": 0},), (["row"], (any_part,)), ({"not": 0}, any_part), (("not",), any_part), (None,), (0,),
            (None, any_part), (None, (any_part,)), (0, (any_part,)), (True, any_part),
        ]
        return tuple(ones) + NEVER

    def test_wrong_ones(self):
        for part in self.wrong_parts():
            self.check_item(aside(part=part), "part")

    def test_wrong_ones_within_others(self):
        for part in self.wrong_parts():
            for word in ("not", "star"):
                self.check((aside(part=(word, part)),), (0, "part"))
                self.check((aside(part=(word, ("star", (word, part)))),), (0, "part"))
            for word in ("row", "or", "and"):
                self.check((aside(part=(word, (part,))),), (0, "part"))
                self.check((aside(part=(word, (self.ANY, part))),), (0, "part"))
                self.check((aside(part=(word, (part, self.ANY, self.ANY))),), (0, "part"))

    def test_depths(self):
        words = ("not", "star", "row", "or", "and")
        for turn in [(word,) for word in words] + [words, words[::-1], words[2:] + words[:2]]:
            for depth in range(1, 9):
                self.check((aside(part=not_deep(depth, turn)),), None if depth <= 6 else (0, "part"))

    def test_each_leaf_is_as_deep_as_any(self):
        for leaf in (self.ANY, self.NONE, ("letters", ()), ("letters", (1, 2))):
            part = leaf
            for _ in range(5):
                part = ("not", part)
            self.check_item(aside(part=part), None)
            self.check_item(aside(part=("star", part)), "part")

    def test_the_deepest_part_counts(self):
        for word in ("row", "or", "and"):
            for parts in itertools.permutations((not_deep(5), self.ANY, not_deep(2))):
                self.check((aside(part=(word, parts)),), None)
            for parts in itertools.permutations((not_deep(6), self.ANY, not_deep(2))):
                self.check((aside(part=(word, parts)),), (0, "part"))

    def test_many_parts(self):
        for word in ("row", "or", "and"):
            for many in range(1, 20):
                self.check((aside(part=(word, (self.ANY,) * many)),), None if many <= 15 else (0, "part"))
                part = (word, (("letters", (1, 2, 3)),) * many)
                self.check((aside(part=part),), None if many <= 15 else (0, "part"))

    def test_all_parts_count(self):
        # One outermost, three times four, and the rest right within it.
        three = (("row", (self.ANY,) * 3),) * 3
        for many in range(1, 6):
            told = None if many <= 3 else (0, "part")
            self.check((aside(part=("or", three + (self.NONE,) * many)),), told)
            self.check((aside(part=("or", (self.NONE,) * many + three)),), told)
        stars = (("star", ("not", self.ANY)),) * 5
        self.check((aside(part=("and", stars)),), None)
        self.check((aside(part=("and", stars + (self.ANY,))),), (0, "part"))

    def test_each_aside_has_parts_of_its_own(self):
        part = ("row", (self.ANY,) * 15)
        self.check(tuple(aside(name, part=part) for name in range(10)), None)


class Tests(Telling):
    def test_right_ones(self):
        for test in RIGHT_EXPRESSIONS:
            self.check_item(aside(test=test), None)

    def test_wrong_ones(self):
        for test in WRONG_EXPRESSIONS + NEVER:
            self.check_item(aside(test=test), "test")

    def test_depths(self):
        for op in ("plus", "less", "times", "part", "below", "same"):
            for side in range(3):
                for depth in range(1, 9):
                    self.check((aside(test=nested(depth, op, side)),), None if depth <= 6 else (0, "test"))


class Rows(Telling):
    def test_right_rows(self):
        for form in FORMS:
            for row in RIGHT_ROWS:
                self.check((aside(form=form, rows=(row,)),), None)
            self.check((aside(form=form, rows=RIGHT_ROWS),), None)
        self.check((aside(form="around", rows=RIGHT_ROWS + RIGHT_ONS),), None)

    def test_wrong_rows(self):
        for form in FORMS:
            for row in WRONG_ROWS + NEVER:
                self.check((aside(form=form, rows=(row,)),), (0, "rows"))
                self.check((aside(form=form, rows=(REST, row)),), (0, "rows"))

    def test_wrong_rows_within_rows(self):
        for form in FORMS:
            for row in WRONG_ROWS[::5]:
                for many in range(1, 4):
                    for ways in itertools.product(WAYS, repeat=many):
                        self.check((aside(form=form, rows=(REST, within_rows(row, ways))),), (0, "rows"))

    def test_no_tuple_of_rows(self):
        for form in FORMS:
            for rows in NO_TUPLES + ([REST], REST, (REST, ())):
                self.check_item(aside(form=form, rows=rows), "rows")

    def test_rows_within_that_are_no_rows(self):
        for value in NO_TUPLES:
            for row in (("if", ONE, value, ()), ("if", ONE, (), value), ("try", value, (), 0, ()), ("try", (), (), 0, value)):
                self.check_item(aside(form="around", rows=(row,)), "rows")

    def test_items_of_other_kinds(self):
        for row in RIGHT_ROWS + RIGHT_ONS:
            for at in range(len(row)):
                for value in NEVER:
                    if at or value != row[0]:
                        self.check((aside(form="around", rows=(with_item(row, at, value),)),), (0, "rows"))

    def test_the_rows_are_for_this_program(self):
        for row in (("get", 0, 0), ("put", 0, ONE), ("call", 0, 1, (ONE, ONE)), ("call", 0, MAIN, ())):
            self.check((aside(rows=(row,)),), None)
            self.check((aside(rows=(row,)),), (0, "rows"), BARE)
        self.check((aside(rows=(("call", 0, 0, ()),)),), None, BARE)

    def test_many_rows(self):
        for form in FORMS:
            self.check((aside(form=form, rows=(REST,) * 120),), None)
            self.check((aside(form=form, rows=(REST,) * 121),), (0, "rows"))
        self.check(tuple(aside(name, rows=(REST,) * 120) for name in range(10)), None)
        self.check(tuple(aside(name, rows=(REST,) * (120 + name // 9)) for name in range(10)), (9, "rows"))

    def test_many_rows_beside_a_full_program(self):
        self.check((aside(rows=(REST,) * 120),), None, ((), ((0, (REST,) * 120),)))

    def test_many_rows_within_rows(self):
        for many, told in ((119, None), (120, (0, "rows"))):
            rows = (REST,) * many
            for row in (
                ("if", ONE, rows, ()), ("if", ONE, (), rows), ("try", rows, (), 0, ()), ("try", (), (), 0, rows),
                ("if", ONE, rows[:60], rows[60:]),
            ):
                self.check((aside(rows=(row,)),), told)
        ways = ((0, "if"), (1, "try"), (0, "try"), (1, "if"))
        self.check((aside(rows=(within_rows(REST, ways),) + (REST,) * 115),), None)
        self.check((aside(rows=(within_rows(REST, ways),) + (REST,) * 116),), (0, "rows"))

    def test_nesting(self):
        for form in FORMS:
            for ways in itertools.product(WAYS, repeat=4):
                self.check((aside(form=form, rows=(within_rows(REST, ways),)),), None)
            for ways in itertools.product(WAYS, repeat=5):
                self.check((aside(form=form, rows=(within_rows(REST, ways),)),), (0, "rows"))


class Ons(Telling):
    def test_on_in_each_form_at_each_depth(self):
        for row in RIGHT_ONS:
            for many in range(5):
                for ways in itertools.product(WAYS, repeat=many):
                    rows = (REST, within_rows(row, ways))
                    self.check((aside(form="around", rows=rows),), None)
                    self.check((aside(form="before", rows=rows),), (0, "rows"))
                    self.check((aside(form="behind", rows=rows),), (0, "rows"))

    def test_no_on_five_deep(self):
        row = within_rows(("on", 0, ()), WAYS + WAYS[:1])
        self.check((aside(form="around", rows=(row,)),), (0, "rows"))

    def test_items(self):
        for slot in range(8):
            self.check_item(aside(form="around", rows=(("on", slot, ()),)), None)
        for many in range(9):
            self.check_item(aside(form="around", rows=(("on", 0, (ONE,) * many),)), None)
        for row in (
            ("on",), ("on", 0), ("on", 8, ()), ("on", -1, ()), ("on", True, ()), ("on", None, ()), ("on", "0", ()),
            ("on", (), 0), ("on", 0, (), ()), ("on", 0, (ONE,) * 9), ("on", 0, ONE), ("on", 0, []), ("on", 0, [ONE]),
            ("on", 0, None), ("on", 0, (1,)), ("on", 0, (("v", 8),)), ("on", 0, (ONE, ("n", True))), ["on", 0, ()],
            ("on", 0, (nested(7),)),
        ):
            self.check_item(aside(form="around", rows=(row,)), "rows")

    def test_one_of_several_asides(self):
        on = (("on", 0, ()),)
        self.check((aside(0, "around", rows=on), aside(1, "behind", rows=on), aside(2, rows=on)), (1, "rows"))
        self.check((aside(0, "around", rows=on), aside(1, "around", rows=on)), None)


if __name__ == "__main__":
    unittest.main()
