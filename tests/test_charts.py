"""What chart_error tells: [H1], [H2]."""

import copy
import unittest

from asidewoven.charts import chart_error
from asidewoven.weaving import weave
from samples import NEVER, NO_INTEGERS, NO_TUPLES, ONE, with_item
from test_nodes import EVERY, SLOT, TELL, TELLS, aside, function, made

# Copies: one of each aside, two of the function 0, and one each of 1 and 2. That of -9 has two nodes.
PROGRAM = ((4,), ((0, (TELL, ("get", 0, 0))), (0, (("call", 0, 0, ()),)), (0, (("call", 0, 0, ()), ("call", 0, 1, ())))))
BELOW = ("row", (EVERY, ("letters", (1,)), EVERY))
ASIDES = (
    aside(5, "before", TELLS, BELOW, SLOT), aside(2, "around", (("get", None),), BELOW, ONE, (("on", 0, ()),)),
    aside(8, "behind", (("get", 0),), EVERY, SLOT),
)
WOVEN, CHART = weave(PROGRAM, ASIDES, ())
LETTERS = [letter for letter, _ in WOVEN[2]]
PLAIN, AROUND = LETTERS.index(0), LETTERS.index(-3)


class Kept(unittest.TestCase):
    def check(self, value, wanted, woven=WOVEN):
        kept, before = copy.deepcopy(value), repr(value)
        with self.subTest(value=repr(value)[:300]):
            for _ in range(2):
                self.assertEqual(repr(chart_error(woven, value)), repr(wanted))
            self.assertEqual(repr(chart_error(value=kept, woven=woven)), repr(wanted))
            self.assertEqual(repr(value), before)

    def check_item(self, place, item, right=False):
        """A chart with this item at the place."""
        self.check(with_item(CHART, place, item), None if right else ("copy", place))

    def check_node(self, place, node, right=False):
        """A chart with the item of this one quadruple at the place, and with another one ahead of it or behind it."""
        self.check_item(place, (node,), right)
        if not right:
            self.check_item(place, (node,) + CHART[place])
            self.check_item(place, CHART[place] + (node,))


class Charts(Kept):
    def test_the_letters_of_this_weaving(self):
        self.assertEqual(LETTERS, [-9, -6, -3, 0, 0, 1, 2])
        self.assertEqual(CHART[AROUND], ((-3, (1, 1, 0), ("get", 0), (2,)),))

    def test_charts_of_weave(self):
        self.check(CHART, None)
        for seed in range(60):
            program, asides, begins = made(seed)
            woven, chart = weave(program, asides, begins)
            self.check(chart, None, woven)

    def test_form(self):
        for value in NO_TUPLES + NO_INTEGERS + NEVER + ((), list(CHART), CHART[1:], CHART[:-1], CHART + CHART[-1:], (CHART,), dict(enumerate(CHART)), WOVEN):
            self.check(value, "form")

    def test_form_goes_ahead(self):
        self.check((None,) * 6, "form")
        self.check((None,) * 8, "form")
        self.check((None,) * 7, ("copy", 0))

    def test_the_first_wrong_item(self):
        for place in range(7):
            for further in range(place, 7):
                self.check(with_item(with_item(CHART, place, ()), further, None), ("copy", place))
        self.check(CHART[1:] + CHART[:1], ("copy", 0))
        self.check(CHART[:5] + CHART[6:] + CHART[5:6], ("copy", 5))
        self.check(CHART[::-1], ("copy", 0))

    def test_items_that_are_no_tuples_of_quadruples(self):
        for place in range(7):
            for item in NO_TUPLES + ((), list(CHART[place]), CHART[place][0], (CHART[place],), ((),), (None,), (CHART[place][0][:3],), (CHART[place][0] + ((),),),
                                     (list(CHART[place][0]),), CHART[place] + (None,), (None,) + CHART[place], ({},), CHART[place] + ([],)):
                self.check_item(place, item)

    def test_letters(self):
        states = CHART[PLAIN][0][1]
        for letter in NO_INTEGERS + (1, 2, -1, -6, -9, 11, 10 ** 30):
            self.check_item(PLAIN, ((letter, states, None, ()),))
        self.check_item(5, ((True, CHART[5][0][1], None, ()),))
        self.check_item(5, ((1, CHART[5][0][1], None, ()),), True)
        self.check_item(PLAIN, ((False, states, None, ()),))
        for place in range(7):
            for further in range(7):
                self.check_item(place, CHART[further], LETTERS[place] == LETTERS[further])

    def test_states(self):
        for states in NO_TUPLES + ((), (0,), (0, 0), (0, 0, 0, 0), [0, 0, 0], (0, 0, -1), (-1, 0, 0), (0, True, 0), (False, 0, 0), (0, 0, None), (0, "0", 0),
                                   (0, (0,), 0), ([], 0, 0), (0, 0, {})):
            self.check_node(PLAIN, (0, states, None, ()))
            self.check_node(AROUND, (-3, states, ("get", 0), (2,)))
        # Which states machines have is not asked.
        for states in ((0, 0, 0), (63, 64, 65), (10 ** 300, 0, 1)):
            self.check_node(PLAIN, (0, states, None, ()), True)
            self.check_node(AROUND, (-3, states, ("get", 0), (2,)), True)

    def test_no_tests_no_states(self):
        woven, chart = weave(PROGRAM, (), ())
        self.check(chart, None, woven)
        self.check(with_item(chart, 0, ((0, (0,), None, ()),)), ("copy", 0), woven)
        self.check(with_item(chart, 0, ((0, (), ("tell", None), (0,)),)), ("copy", 0), woven)
        self.check(with_item(chart, 0, ((0, (), ("tell", None), ()),)), None, woven)

    def test_moments(self):
        states = CHART[AROUND][0][1]
        for kind, numbers in (("call", (0, 1, 7, 10 ** 30)), ("get", (0, 5)), ("put", (0, 9)), ("tell", (None,)), ("ask", (None,))):
            for number in numbers:
                # Any copy may have moments, as far as the form goes.
                self.check_node(AROUND, (-3, states, (kind, number), ()), True)
                self.check_node(PLAIN, (0, states, (kind, number), (0, 2)), True)
            for number in (None, 0, -1, True, False, "0", (), [], (0,), 3, 10 ** 30):
                if number not in numbers or isinstance(number, bool):
                    right = kind in ("call", "get", "put") and number in (0, 3, 10 ** 30) and not isinstance(number, bool)
                    self.check_item(AROUND, ((-3, states, (kind, number), ()),), right)
        for moment in NO_TUPLES + ((), ("get",), ("get", 0, 0), ["get", 0], ("on", 0), ("rest", None), ("", None), (None, None), (0, 0), (["get"], 0), ("Get", 0), (("get",), 0)):
            if moment is not None:
                self.check_node(AROUND, (-3, states, moment, ()))
                self.check_node(PLAIN, (0, states, moment, ()))

    def test_no_moment(self):
        states = CHART[AROUND][0][1]
        self.check_item(AROUND, ((-3, states, None, ()),), True)
        for rest in NO_TUPLES + ((0,), (2,), ((),), [], (None,)):
            self.check_node(PLAIN, (0, states, None, rest))
        for moment in (False, 0, "", (), []):
            self.check_node(PLAIN, (0, states, moment, ()))

    def test_rests(self):
        states = CHART[AROUND][0][1]
        for rest in ((), (0,), (1,), (2,), (0, 1), (0, 2), (1, 2), (0, 1, 2)):
            self.check_item(AROUND, ((-3, states, ("get", 0), rest),), True)
        for rest in NO_TUPLES + ((3,), (-1,), (0, 3), (1, 0), (2, 1), (1, 1), (0, 0), (0, 1, 1), (True,), (0, True), (False,), (None,), ("0",), [1], ((1,),), (1, []), (10 ** 30,)):
            self.check_item(AROUND, ((-3, states, ("get", 0), rest),))

    def test_with_moments_and_without(self):
        low, high = (0, 0, 0), (1, 0, 0)
        with_one, without = ("get", 0), None
        for first, second in (((with_one, ()), (without, ())), ((without, ()), (with_one, ()))):
            self.check_item(AROUND, ((-3, low) + first, (-3, high) + second))
        # Moments need not be the same.
        self.check_item(AROUND, ((-3, low, ("tell", None), ()), (-3, high, ("get", 0), (2,))), True)
        self.check_item(AROUND, ((-3, low, None, ()), (-3, high, None, ())), True)

    def test_ascending(self):
        first, second, third = ((0, (0, 0, state), None, ()) for state in range(3))
        self.check_item(PLAIN, (first, second, third), True)
        for item in ((second, first), (first, first), (first, third, second), (first, second, second), (third, second, first), (first, second, third, third)):
            self.check_item(PLAIN, item)
        states = (0, 0, 0)
        by_moment = [(-3, states, moment, rest) for moment, rest in (
            (("ask", None), ()), (("ask", None), (1,)), (("call", 0), ()), (("call", 1), ()), (("get", 0), ()), (("get", 0), (0, 2)), (("get", 0), (1,)),
            (("put", 0), ()), (("tell", None), ()), (("tell", None), (0,)),
        )]
        self.check_item(AROUND, tuple(by_moment), True)
        for at in range(len(by_moment) - 1):
            changed = list(by_moment)
            changed[at], changed[at + 1] = changed[at + 1], changed[at]
            self.check_item(AROUND, tuple(changed))

    def test_a_node_in_two_items(self):
        self.check_item(PLAIN, CHART[PLAIN + 1], True)
        self.check_item(PLAIN, CHART[PLAIN] + CHART[PLAIN + 1], True)

    def test_any_value_as_a_thing_in_it(self):
        for value in NEVER + NO_INTEGERS + NO_TUPLES + (WOVEN, CHART, PROGRAM, ASIDES):
            for place in (PLAIN, AROUND):
                node = CHART[place][0]
                for at in range(4):
                    if not (at == 2 and place == AROUND and value is None) and value != node[at] and not (at == 3 and value == ()):
                        told = chart_error(WOVEN, with_item(CHART, place, (with_item(node, at, value),)))
                        self.assertIn(told, (("copy", place), None))
                        if at < 3:
                            self.assertEqual(told, ("copy", place))


class OneByOne(Kept):
    def test_one_copy(self):
        woven = ((), (), ((0, ()),), 0)
        self.check((((0, (), None, ()),),), None, woven)
        for value in ((), (((0, (), None, ()),),) * 2, ((),), ((0, (), None, ()),), None):
            self.check(value, "form" if value is None or len(value) != 1 else ("copy", 0), woven)
        self.assertEqual(function(0), (0, (), None, ()))


if __name__ == "__main__":
    unittest.main()
