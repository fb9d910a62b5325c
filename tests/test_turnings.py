"""What turning_error and turned tell: [I1] to [I5]."""

import copy
import itertools
import random
import unittest

from asidewoven.classes import classes
from asidewoven.errors import AsideError, BadTurning
from asidewoven.free import free_run
from asidewoven.judging import judge
from asidewoven.machine import run
from asidewoven.nodes import nodes
from asidewoven.turnings import turned, turning_error
from asidewoven.weaving import free_woven, run_woven, weave
from making import NUMBERS
from samples import NEVER, NO_INTEGERS, NO_TUPLES, ONE, REST, with_item
from test_nodes import CALL, EVERY, SLOT, TELL, TELLS, aside, function, made
from test_weaving import few_calls, other_weaving
from weave_oracle import after_drop, after_join, after_order, after_split, mapped

# Nobody asks in these programs: the states tell nodes apart, and nothing else.
BELOW = ("row", (EVERY, ("letters", (1,)), EVERY))
QUIET = (aside(7, "before", (("ask", None),), BELOW),)


def called(*functions):
    return tuple(("call", 0, f, ()) for f in functions)


def program_of(*bodies):
    return ((), tuple((0, rows) for rows in bodies))


# 2 calls 0 and 1, 1 calls 0: function 0 has the nodes with 0 and with 1, and one copy.
SMALL = program_of((REST,), called(0), called(0, 1))
# 3 calls 2 and 1, 1 calls 2, and 2 calls 0: 2 and 0 have two nodes each.
CHAIN = program_of((REST,), called(2), called(0), called(2, 1))


class Turned(unittest.TestCase):
    def refuse(self, error, turning, program, asides, begins, woven, chart):
        handed = (program, asides, begins, woven, chart, turning)
        with self.subTest(turning=repr(turning)[:300], program=program):
            before = repr(handed)
            for _ in range(2):
                self.assertEqual(repr(turning_error(*handed)), repr(error))
                with self.assertRaises(AsideError) as caught:
                    turned(*handed)
                self.assertIs(caught.exception.__class__, BadTurning)
                self.assertEqual(repr(caught.exception.error), repr(error))
            self.assertEqual(repr(handed), before)

    def turn(self, turning, program, asides, begins, woven, chart):
        """The weaving and the chart behind a turning that can be done, as the words tell them."""
        handed = (program, asides, begins, woven, chart, turning)
        before = repr(handed)
        with self.subTest(turning=turning, program=program, asides=asides, begins=begins):
            self.assertIsNone(turning_error(*handed))
            told = turned(*handed)
            if turning[0] == "order":
                wanted = after_order(woven, chart, turning[1])
            elif turning[0] == "join":
                wanted = after_join(woven, chart, turning[1])
            elif turning[0] == "drop":
                wanted = after_drop(program, asides, begins, woven, chart)
            else:
                wanted = after_split(program, asides, begins, woven, chart, *turning[1:])
            self.assertEqual(repr(told), repr(wanted))
            self.assertIsNone(judge(program, asides, begins, *told))
            self.assertEqual(repr(turned(*copy.deepcopy(handed))), repr(wanted))
            self.assertEqual(repr(handed), before)
        return told


class Forms(Turned):
    WOVEN, CHART = weave(SMALL, QUIET, ())
    NODES = CHART[0]

    def form(self, turning, error="form"):
        self.refuse(error, turning, SMALL, QUIET, (), self.WOVEN, self.CHART)

    def test_what_is_no_turning(self):
        for value in NO_TUPLES + NEVER + NO_INTEGERS + ((None,), ("",), ("turn",), ("Drop",), (("drop",),), (["drop"],), ({},), (0,), ("order", "split"), ["drop"], ["order", (0, 1, 2)]):
            self.form(value)

    def test_too_few_items_and_too_many(self):
        for value in (("order",), ("order", (0, 1, 2), ()), ("split",), ("split", 0), ("split", 0, self.NODES[:1], ()), ("join",), ("join", ((0, 1),), ()),
                      ("drop", ()), ("drop", None), ("drop", "drop")):
            self.form(value)

    def test_items_of_other_kinds(self):
        for value in NO_TUPLES:
            self.form(("order", value))
            self.form(("split", 0, value))
            self.form(("join", value))
            self.form(("join", (value,)))
            self.form(("join", ((0, 1), value)))
        for value in NO_INTEGERS:
            self.form(("order", (0, 1, value)))
            self.form(("order", (value,)))
            self.form(("split", value, self.NODES[:1]))
            self.form(("join", ((0, value),)))
            self.form(("join", ((value, 1),)))
        self.form(("order", [0, 1, 2]))
        self.form(("split", 0, list(self.NODES[:1])))
        self.form(("join", [(0, 1)]))
        self.form(("join", ([0, 1],)))

    def test_how_many_lots_and_copies_in_them(self):
        for lots in ((), ((),), ((0,),), ((0, 1), ()), ((0, 1), (2,))):
            self.form(("join", lots))

    def test_copies_of_order(self):
        for copies in ((), (0,), (0, 1), (0, 1, 2, 3), (0, 1, 1), (0, 0, 1, 2), (1, 2, 3), (-1, 0, 1), (0, 1, 10 ** 30), (2, 2, 2)):
            self.form(("order", copies), "copies")

    def test_copies_of_split(self):
        for at in (-1, 3, 7, 10 ** 30, -(10 ** 30)):
            self.form(("split", at, self.NODES[:1]), "copies")
            self.form(("split", at, ()), "copies")

    def test_copies_of_join(self):
        for lots in (((0, 3),), ((-1, 0),), ((1, 0),), ((0, 0),), ((0, 1), (1, 2)), ((0, 1), (0, 1)), ((0, 1, 1),), ((0, 2, 1),), ((0, 10 ** 30),), ((1, 2), (2, 1)), ((0, 1), (2, 5))):
            self.form(("join", lots), "copies")

    def test_nodes_of_split(self):
        first, second = self.NODES
        for some in ((), self.NODES, (second, first), (first, first), (function(0, 2),), (function(1, 1),), (first, function(0, 2)), (None,), (0,), ((),), (list(first),),
                     ((0, (False,), None, ()),), ((False, (0,), None, ()),), (first[:3],), (first + ((),),), ((0, [0], None, ()),), ((0, (0,), False, ()),), ((0, (0,), None, []),),
                     (first, None), ({},), ("node",), (first, second, second)):
            self.form(("split", 0, some), "nodes")
        for at in (1, 2):
            for some in (self.CHART[at], (), self.NODES[:1], (first,)):
                self.form(("split", at, some), "nodes")

    def test_by_place_and_by_name(self):
        named = dict(program=SMALL, asides=QUIET, begins=(), woven=self.WOVEN, chart=self.CHART, turning=("split", 0, self.NODES[1:]))
        self.assertIsNone(turning_error(**dict(reversed(list(named.items())))))
        self.assertEqual(turned(**dict(reversed(list(named.items())))), turned(*named.values()))
        named["turning"] = ("order", (0, 1))
        self.assertEqual(turning_error(**named), "copies")


class Orders(Turned):
    def test_each_order(self):
        woven, chart = weave(SMALL, QUIET, ())
        for order in itertools.permutations(range(3)):
            told = self.turn(("order", order), SMALL, QUIET, (), woven, chart)
            self.assertEqual([told[1][number] for number in range(3)], [chart[at] for at in order])
            self.assertEqual(told[0][3], order.index(2))
            back = tuple(order.index(number) for number in range(3))
            self.assertEqual(self.turn(("order", back), SMALL, QUIET, (), *told), (woven, chart))

    def test_links_go_with_it(self):
        asides = (aside(4, "before", TELLS, EVERY, SLOT), aside(6, "around", TELLS, EVERY, SLOT, (("on", 0, ()),)), aside(1, "behind", TELLS, EVERY, SLOT, (REST,)))
        inner = ("if", SLOT, (("try", (CALL,), (), 0, (TELL,)),), ())
        program = program_of((TELL,), (CALL, inner))
        woven, chart = weave(program, asides, ())
        for seed in range(10):
            order = list(range(len(chart)))
            random.Random(seed).shuffle(order)
            self.turn(("order", tuple(order)), program, asides, (), woven, chart)

    def test_numbers_that_are_no_copies_stay(self):
        # The -1 of deeds without a copy is none.
        program = ((5,), ((0, (TELL, ("get", 0, 0), ("put", 0, ONE), ("ask", 0))), (0, (CALL,))))
        woven, chart = weave(program, (), ())
        told, _ = self.turn(("order", (1, 0)), program, (), (), woven, chart)
        self.assertEqual([row[-1] for row in told[2][1][1]], [row[-1] for row in woven[2][0][1]])


class Splits(Turned):
    def split(self, program, asides, begins, some, copy_of=None):
        """Splits some nodes from the copy that has them in what weave tells, and joins them again."""
        woven, chart = weave(program, asides, begins)
        at = [number for number, item in enumerate(chart) if some[0] in item][0]
        told = self.turn(("split", at, some), program, asides, begins, woven, chart)
        self.assertEqual(told[1][-1], some)
        self.assertEqual(set(told[1][at]) | set(some), set(chart[at]))
        self.assertEqual(self.turn(("join", ((at, len(chart)),)), program, asides, begins, *told), (woven, chart))
        return told

    def mixed(self, program, asides, begins, some, error):
        woven, chart = weave(program, asides, begins)
        at = [number for number, item in enumerate(chart) if some[0] in item][0]
        self.refuse(error, ("split", at, some), program, asides, begins, woven, chart)

    def test_named_by_others(self):
        for state, names in ((1, (0, 3, 1)), (0, (3, 0, 1))):
            woven, _ = self.split(SMALL, QUIET, (), (function(0, state),))
            self.assertEqual([row[-1][1][2] for at in (2, 1) for row in woven[2][at][1]], [names[0], names[2], names[1]])
            self.assertEqual(woven[3], 2)

    def test_named_by_several_rows(self):
        rows = called(0) + (("if", SLOT, called(0), (("try", called(0, 0), (3,), 0, called(0)),)),)
        program = program_of((REST,), rows, rows + called(1))
        for state in (0, 1):
            woven, _ = self.split(program, QUIET, (), (function(0, state),))
            self.assertEqual({number for at in (1, 2) for number in self.named(woven[2][at][1])}, {0, 1, 3})

    def named(self, rows):
        found = []
        mapped(rows, lambda place, number, old: found.append(old) or old)
        return found

    def test_a_copy_that_names_itself(self):
        # 0 calls itself; its nodes are told apart by whether 1 is below, and by how many letters there are.
        program = program_of((("if", SLOT, called(0), ()),), called(0), called(0, 1))
        woven, chart = self.split(program, QUIET, (), (function(0, 1),))
        self.assertEqual((self.named(woven[2][0][1]), self.named(woven[2][3][1])), ([0], [3]))
        even = (aside(7, "before", (("ask", None),), ("star", ("row", (("any",), ("any",))))),)
        program = program_of((("if", SLOT, called(0), ()),), called(0))
        woven, chart = self.split(program, even, (), (function(0, 0),))
        self.assertEqual((self.named(woven[2][0][1]), self.named(woven[2][2][1])), ([2], [0]))

    def test_the_entry(self):
        # The main function calls itself: the pile of it alone has the state 1.
        even = (aside(7, "before", (("ask", None),), ("star", ("row", (("any",), ("any",))))),)
        program = program_of((("if", SLOT, called(0), ()),))
        woven, chart = self.split(program, even, (), (function(0, 1),))
        self.assertEqual((woven[3], chart), (1, ((function(0, 0),), (function(0, 1),))))
        woven, chart = self.split(program, even, (), (function(0, 0),))
        self.assertEqual((woven[3], chart), (0, ((function(0, 1),), (function(0, 0),))))

    def test_the_entry_that_is_another_copy(self):
        # Both copies of the main function have its node.
        even = (aside(7, "before", (("ask", None),), ("star", ("row", (("any",), ("any",))))),)
        program = program_of((("if", SLOT, called(0), ()),))
        woven, chart = weave(program, even, ())
        itself = (0, mapped(woven[2][0][1], lambda place, number, old: 1))
        twice = (woven[:2] + (woven[2] + (itself,), 1), chart * 2)
        self.assertIsNone(judge(program, even, (), *twice))
        told = self.turn(("split", 0, (function(0, 1),)), program, even, (), *twice)
        self.assertEqual((told[0][3], len(told[1])), (1, 3))
        self.refuse(("mixed", 1, (0, 0, 0)), ("split", 0, (function(0, 1),)), program, even, (), woven[:2] + (woven[2] * 2, 1), chart * 2)

    def test_links(self):
        # The aside 4 is run at tells of 0, below 1 and not; its copy has two nodes.
        asides = QUIET + (aside(4, "before", TELLS, EVERY, SLOT, (REST,)),)
        program = program_of((TELL,), called(0) + (TELL,), called(0, 1))
        self.mixed(program, asides, (), ((-5, (1, 0), None, ()),), ("mixed", 1, (0,)))
        self.mixed(program, asides, (), ((-5, (0, 0), None, ()),), ("mixed", 1, (0,)))
        woven, chart = weave(program, asides, ())
        at = [number for number, item in enumerate(chart) if function(0, 0, 0) in item][0]
        told = self.turn(("split", at, (function(0, 1, 0),)), program, asides, (), woven, chart)
        self.turn(("split", 0, ((-5, (1, 0), None, ()),)), program, asides, (), *told)

    def test_rests_and_on_rows(self):
        asides = QUIET + (aside(4, "around", TELLS, EVERY, SLOT, (("on", 0, ()), ("if", SLOT, (("on", 1, ()),), ()))), aside(2, "behind", TELLS, EVERY, SLOT))
        program = program_of((TELL,), called(0), called(0, 1))
        told = weave(program, asides, ())
        # From the top down: the function, then the around copy, then the behind copy.
        for some in ((function(0, 1, 0, 0),), ((-5, (1, 0, 0), ("tell", None), (2,)),), ((-3, (1, 0, 0), None, ()),)):
            at = [number for number, item in enumerate(told[1]) if some[0] in item and len(item) > 1][0]
            told = self.turn(("split", at, some), program, asides, (), *told)
        self.assertEqual(len(told[1]), len(classes(program, asides, ())) + 3)

    def test_mixed(self):
        woven, chart = weave(CHAIN, QUIET, ())
        self.assertEqual(chart, ((function(0, 0), function(0, 1)), (function(1, 1),), (function(2, 0), function(2, 1)), (function(3, 0),)))
        for some in (function(0, 0), function(0, 1)):
            self.refuse(("mixed", 2, (0,)), ("split", 0, (some,)), CHAIN, QUIET, (), woven, chart)
        # Once the copy above is split there is nothing mixed any more.
        told = self.turn(("split", 2, (function(2, 1),)), CHAIN, QUIET, (), woven, chart)
        told = self.turn(("split", 0, (function(0, 1),)), CHAIN, QUIET, (), *told)
        self.assertEqual([len(item) for item in told[1]], [1] * 6)

    def test_the_first_mixed_copy_and_row(self):
        # 2 and 1 have two nodes each, and call 0 at several rows.
        quiet = (aside(7, "before", (("ask", None),), ("row", (EVERY, ("letters", (3,)), EVERY))),)
        rows = (REST, ("if", SLOT, (REST,) + called(0), called(0))) + called(0)
        program = program_of((REST,), called(0), rows, called(1, 2), called(1, 2, 3))
        woven, chart = weave(program, quiet, ())
        self.assertEqual([len(item) for item in chart], [2, 2, 2, 1, 1])
        some = (function(0, 1),)
        self.refuse(("mixed", 1, (0,)), ("split", 0, some), program, quiet, (), woven, chart)
        first = self.turn(("split", 1, (function(1, 1),)), program, quiet, (), woven, chart)
        self.refuse(("mixed", 2, (1, 0, 1)), ("split", 0, some), program, quiet, (), *first)
        # The numbers are those behind the split.
        order = self.turn(("order", (2, 1, 0, 4, 3, 5)), program, quiet, (), *first)
        self.refuse(("mixed", 0, (1, 0, 1)), ("split", 2, some), program, quiet, (), *order)

    def test_mixed_in_the_new_copy(self):
        # 0 calls itself; with three states a split leaves two nodes, of which either copy may be mixed.
        three = (aside(7, "before", (("ask", None),), ("star", ("row", (("any",),) * 3))),)
        program = program_of((("if", SLOT, called(0), ()),))
        woven, chart = weave(program, three, ())
        self.assertEqual(chart, ((function(0, 0), function(0, 1), function(0, 2)),))
        for some, at in (((0,), 0), ((1,), 0), ((2,), 0), ((0, 1), 1), ((0, 2), 1), ((1, 2), 1)):
            self.refuse(("mixed", at, (0, 0, 0)), ("split", 0, tuple(function(0, state) for state in some)), program, three, (), woven, chart)

    def test_a_row_that_is_not_come_to_stays(self):
        program = program_of((REST,), (("answer", ONE),) + called(0), called(0) + called(1, 1))
        woven, chart = weave(program, QUIET, ((2, 1, 0),))
        self.assertEqual(chart[0], (function(0, 0), function(0, 1)))
        told = self.turn(("split", 0, (function(0, 1),)), program, QUIET, ((2, 1, 0),), woven, chart)
        self.assertEqual(told[0][2][1][1][1][-1], ((), None))

    def test_a_node_that_stands_in_two_items(self):
        woven, chart = weave(SMALL, QUIET, ())
        both = (woven[:2] + (woven[2] + (woven[2][0],), 2), chart + (chart[0],))
        self.assertIsNone(judge(SMALL, QUIET, (), *both))
        told = self.turn(("split", 0, (function(0, 1),)), SMALL, QUIET, (), *both)
        self.assertEqual(told[1][0], (function(0, 0),))
        self.assertEqual(self.named(told[0][2][1][1]), [4])

    def test_nodes_that_are_not_come_to(self):
        # The chart may have more nodes than those come to; they count as well.
        program = program_of((REST,), called(0), called(0))
        woven, chart = weave(program, QUIET, ())
        self.assertEqual(chart, ((function(0, 0),), (function(2, 0),)))
        wider = (chart[0] + (function(0, 1),), chart[1] + (function(2, 1),))
        self.assertIsNone(judge(program, QUIET, (), woven, wider))
        self.refuse(("mixed", 1, (0,)), ("split", 0, (function(0, 1),)), program, QUIET, (), woven, wider)
        told = self.turn(("split", 1, (function(2, 1),)), program, QUIET, (), woven, wider)
        told = self.turn(("split", 0, (function(0, 1),)), program, QUIET, (), *told)
        self.assertEqual(self.turn(("drop",), program, QUIET, (), *told), (woven, chart))


class Joins(Turned):
    def test_letters(self):
        woven, chart = weave(SMALL, QUIET, ())
        for lots in (((0, 1),), ((1, 2),), ((0, 1, 2),), ((0, 2),)):
            self.refuse("letters", ("join", lots), SMALL, QUIET, (), woven, chart)
        split = self.turn(("split", 0, (function(0, 1),)), SMALL, QUIET, (), woven, chart)
        self.refuse("letters", ("join", ((0, 3), (1, 2))), SMALL, QUIET, (), *split)
        self.refuse("letters", ("join", ((0, 1, 3),)), SMALL, QUIET, (), *split)

    # 0 tells, with an aside below 1 alone.
    PROGRAM, ASIDES = program_of((REST, TELL), called(0), called(0, 1)), (aside(5, "before", TELLS, BELOW, SLOT),)

    def test_rows(self):
        woven, chart = weave(self.PROGRAM, self.ASIDES, ())
        self.assertEqual([letter for letter, _ in woven[2]], [-6, 0, 0, 1, 2])
        self.refuse(("rows", 2, (1,)), ("join", ((1, 2),)), self.PROGRAM, self.ASIDES, (), woven, chart)
        # By the deed alone.
        begins = ((2, 1, 2),)
        woven, chart = weave(self.PROGRAM, self.ASIDES, begins)
        self.assertEqual([letter for letter, _ in woven[2]], [-6, 0, 0, 1, 2, 2])
        self.refuse(("rows", 5, (0,)), ("join", ((4, 5),)), self.PROGRAM, self.ASIDES, begins, woven, chart)
        # Letters of any lot go ahead of rows.
        self.refuse("letters", ("join", ((1, 2), (3, 4))), self.PROGRAM, self.ASIDES, begins, woven, chart)

    def test_the_first_copy_and_row(self):
        rows = (("if", SLOT, (REST, TELL), (("ask", 0),)), TELL)
        program = program_of(rows, called(0), called(0, 1), called(0, 1, 2))
        asides = (aside(5, "before", TELLS, BELOW, SLOT), aside(6, "before", (("ask", None),), ("row", (EVERY, ("letters", (2,)), EVERY)), SLOT))
        woven, chart = weave(program, asides, ())
        at = [number for number, (letter, _) in enumerate(woven[2]) if letter == 0]
        self.assertEqual([chart[number][0][1] for number in at], [(0, 0), (0, 1), (1, 0), (1, 1)])
        zero, two, one, both = at
        self.refuse(("rows", two, (0, 1, 0)), ("join", ((zero, two),)), program, asides, (), woven, chart)
        self.refuse(("rows", one, (0, 0, 1)), ("join", ((zero, one),)), program, asides, (), woven, chart)
        self.refuse(("rows", both, (0, 0, 1)), ("join", ((zero, both),)), program, asides, (), woven, chart)
        self.refuse(("rows", two, (0, 1, 0)), ("join", ((one, both), (zero, two))), program, asides, (), woven, chart)
        self.refuse(("rows", one, (0, 0, 1)), ("join", ((two, both), (zero, one))), program, asides, (), woven, chart)
        self.refuse(("rows", two, (0, 1, 0)), ("join", (tuple(at),)), program, asides, (), woven, chart)

    def test_two_lots_at_once(self):
        told = weave(CHAIN, QUIET, ())
        woven, chart = told
        for turning in (("split", 2, (function(2, 1),)), ("split", 0, (function(0, 1),))):
            told = self.turn(turning, CHAIN, QUIET, (), *told)
        # 2 and 4 are the copies of the function 2, 0 and 5 those of 0; the former ones alone name unlike copies.
        self.refuse(("rows", 4, (0,)), ("join", ((2, 4),)), CHAIN, QUIET, (), *told)
        for lots in (((2, 4), (0, 5)), ((0, 5), (2, 4))):
            self.assertEqual(self.turn(("join", lots), CHAIN, QUIET, (), *told), (woven, chart))
        first = self.turn(("join", ((0, 5),)), CHAIN, QUIET, (), *told)
        self.assertEqual(self.turn(("join", ((2, 4),)), CHAIN, QUIET, (), *first), (woven, chart))

    def test_copies_that_name_each_other(self):
        even = (aside(7, "before", (("ask", None),), ("star", ("row", (("any",), ("any",))))),)
        program = program_of((("if", SLOT, called(0), ()),), called(0))
        woven, chart = weave(program, even, ())
        told = self.turn(("split", 0, (function(0, 0),)), program, even, (), woven, chart)
        for order in itertools.permutations(range(3)):
            turned_round = self.turn(("order", order), program, even, (), *told)
            lot = tuple(sorted(order.index(number) for number in (0, 2)))
            back = self.turn(("join", (lot,)), program, even, (), *turned_round)
            self.assertEqual(sorted(back[1]), sorted(chart))

    def test_three_in_a_lot_and_the_entry_in_it(self):
        program = program_of((("if", SLOT, called(0), ()),))
        three = (aside(7, "before", (("ask", None),), ("star", ("row", (("any",),) * 3))),)
        woven, chart = weave(program, three, ())
        one_each = (woven[:2] + (tuple((0, (("if", SLOT, (("call", 0, 0, (), ((), ("call", 0, state))),), ()),)) for state in (1, 2, 0)), 1),
                    tuple((function(0, state),) for state in range(3)))
        for order in itertools.permutations(range(3)):
            told = self.turn(("order", order), program, three, (), *one_each)
            self.assertEqual(self.turn(("join", ((0, 1, 2),)), program, three, (), *told), (woven, chart))
            for lot in ((0, 1), (0, 2), (1, 2)):
                self.refuse(("rows", lot[1], (0, 0, 0)), ("join", (lot,)), program, three, (), *told)

    def test_nodes_of_all_once_and_ascending(self):
        woven, chart = weave(SMALL, QUIET, ())
        twice = (woven[:2] + (woven[2] + (woven[2][0],) * 2, 2), ((function(0, 1),), chart[1], chart[2], chart[0], chart[0]))
        wrong = judge(SMALL, QUIET, (), *twice)
        self.assertEqual(wrong, ("chain", 2, (0,), function(2, 0)))
        right = (twice[0][:2] + (with_item(twice[0][2], 2, (2, mapped(woven[2][2][1], lambda place, number, old: 3 if old == 0 else old))), 2), twice[1])
        self.assertIsNone(judge(SMALL, QUIET, (), *right))
        told = self.turn(("join", ((0, 3, 4),)), SMALL, QUIET, (), *right)
        self.assertEqual(told, (woven, chart))

    def test_on_rows_and_links(self):
        asides = QUIET + (aside(4, "around", TELLS, EVERY, SLOT, (("on", 0, ()),)), aside(2, "behind", TELLS, EVERY, SLOT))
        program = program_of((TELL,), called(0), called(0, 1))
        woven, chart = told = weave(program, asides, ())
        for some in ((function(0, 1, 0, 0),), ((-5, (1, 0, 0), ("tell", None), (2,)),), ((-3, (1, 0, 0), None, ()),)):
            at = [number for number, item in enumerate(told[1]) if some[0] in item and len(item) > 1][0]
            told = self.turn(("split", at, some), program, asides, (), *told)
        at = {letter: [number for number, (own, _) in enumerate(told[0][2]) if own == letter] for letter in (-5, -3, 0)}
        self.assertEqual([len(copies) for copies in at.values()], [2, 2, 2])
        self.refuse(("rows", at[0][1], (0,)), ("join", (tuple(at[0]),)), program, asides, (), *told)
        self.refuse(("rows", at[-5][1], (0,)), ("join", (tuple(at[-5]),)), program, asides, (), *told)
        for letter in (-5, -3):
            self.refuse(("rows", at[0][1], (0,)), ("join", (tuple(at[letter]), tuple(at[0]))), program, asides, (), *told)
        self.assertEqual(self.turn(("join", tuple(tuple(copies) for copies in at.values())), program, asides, (), *told), (woven, chart))


class Drops(Turned):
    def test_nothing_to_drop(self):
        for program, asides in ((SMALL, QUIET), (CHAIN, QUIET), (SMALL, ())):
            woven, chart = weave(program, asides, ())
            self.assertEqual(self.turn(("drop",), program, asides, (), woven, chart), (woven, chart))

    def test_copies_that_nothing_comes_to(self):
        woven, chart = weave(CHAIN, QUIET, ())
        for order in ((0, 1, 2, 3, 4, 5), (5, 4, 3, 2, 1, 0), (4, 0, 5, 3, 1, 2)):
            wider = (woven[:2] + (woven[2] + (woven[2][2], woven[2][1]), 3), chart + (chart[2], chart[1]))
            self.assertIsNone(judge(CHAIN, QUIET, (), *wider))
            told = self.turn(("order", order), CHAIN, QUIET, (), *wider)
            kept = self.turn(("drop",), CHAIN, QUIET, (), *told)
            self.assertEqual(kept[1], tuple(told[1][number] for number, at in enumerate(order) if at < 4))

    def test_a_copy_that_only_dropped_ones_name(self):
        woven, chart = weave(SMALL, QUIET, ())
        # The copy 3 of the function 1 calls the copy 4 of 0, and nobody calls 3.
        wider = (woven[:2] + (woven[2] + ((1, (("call", 0, 0, (), ((), ("call", 0, 4))),)), woven[2][0]), 2), chart + (chart[1], chart[0]))
        self.assertEqual(self.turn(("drop",), SMALL, QUIET, (), *wider), (woven, chart))

    def test_copies_that_begins_hold(self):
        begins = ((2, 1, 2), (2, 1, 0))
        woven, chart = weave(SMALL, QUIET, begins)
        self.assertEqual(self.turn(("drop",), SMALL, QUIET, begins, woven, chart), (woven, chart))
        # Two copies have the node of a begin, which nobody calls otherwise: both stay.
        at = [number for number, item in enumerate(chart) if function(2, 1) in item][0]
        wider = (woven[:2] + (woven[2] + (woven[2][at],), woven[3]), chart + (chart[at],))
        self.assertEqual(self.turn(("drop",), SMALL, QUIET, begins, *wider), wider)
        # For other begins it goes.
        woven, chart = weave(SMALL, QUIET, ())
        wider = (woven[:2] + (woven[2] + (woven[2][2],), woven[3]), chart + ((function(2, 1),),))
        self.assertIsNone(judge(SMALL, QUIET, (), *wider))
        self.assertEqual(self.turn(("drop",), SMALL, QUIET, (), *wider), (woven, chart))
        self.assertEqual(self.turn(("drop",), SMALL, QUIET, ((2,),), *wider), (woven, chart))

    def test_the_copies_of_the_main_pile(self):
        woven, chart = weave(SMALL, QUIET, ())
        wider = (woven[:2] + (woven[2] + (woven[2][2],), 3), chart + (chart[2],))
        # The copy 2 is not the entry any more, but the chart has a first node there.
        self.assertEqual(self.turn(("drop",), SMALL, QUIET, (), *wider), wider)

    def test_links_on_rows_and_rows_within_rows(self):
        asides = (aside(4, "around", TELLS, EVERY, SLOT, (("if", SLOT, (("on", 0, ()),), ()),)), aside(2, "behind", TELLS, EVERY, SLOT, called(0)))
        program = program_of((REST,), (("try", (("if", SLOT, (), (TELL,)),), (), 0, ()),))
        woven, chart = weave(program, asides, ())
        self.assertEqual(self.turn(("drop",), program, asides, (), woven, chart), (woven, chart))


class Made(Turned):
    def test_turnings_and_the_way_back(self):
        done = {"order": 0, "split": 0, "join": 0, "drop": 0, "mixed": 0, "rows": 0}
        for seed in range(120):
            program, asides, begins = made(seed)
            source = random.Random(seed)
            told = other_weaving(source, program, asides, begins)
            for _ in range(5):
                turning = self.some_turning(source, *told)
                if turning is None:
                    continue
                error = turning_error(program, asides, begins, *told, turning)
                done[turning[0] if error is None else error[0]] += 1
                if error is None:
                    told = self.turn(turning, program, asides, begins, *told)
                elif error[0] == "mixed":
                    self.assertEqual(after_split(program, asides, begins, *told, *turning[1:]), error)
                self.check_runs(source, program, asides, told[0])
            self.check_way_back(program, asides, begins, *told)
        self.assertGreater(min(done.values()), 10, done)

    def some_turning(self, source, woven, chart):
        word = source.choice(("order", "split", "split", "split", "join", "drop"))
        numbers = list(range(len(chart)))
        if word == "order":
            source.shuffle(numbers)
            return ("order", tuple(numbers))
        if word == "split":
            wide = [number for number in numbers if len(chart[number]) > 1]
            if not wide:
                return None
            at = source.choice(wide)
            return ("split", at, tuple(sorted(source.sample(chart[at], source.randint(1, len(chart[at]) - 1)))))
        if word == "join":
            by_letter = {}
            for number in numbers:
                by_letter.setdefault(woven[2][number][0], []).append(number)
            lots = [copies for copies in by_letter.values() if len(copies) > 1]
            if not lots:
                return None
            return ("join", tuple(tuple(sorted(source.sample(lot, source.randint(2, len(lot))))) for lot in source.sample(lots, source.randint(1, len(lots)))))
        return ("drop",)

    def check_runs(self, source, program, asides, woven):
        inputs = tuple(source.choice(NUMBERS) for _ in range(source.randint(0, 5)))
        self.assertEqual(run_woven(woven, inputs, 60), run(program, asides, inputs, 60))
        choices = tuple(source.choice((0, 0, 0, 1, 2, 9)) for _ in range(30))
        self.assertEqual(free_woven(woven, choices), free_run(program, asides, choices))

    def check_way_back(self, program, asides, begins, woven, chart):
        """Drop, join and order lead to what weave tells."""
        wanted, parts = weave(program, asides, begins)
        number = {node: at for at, part in enumerate(parts) for node in part}
        woven, chart = self.turn(("drop",), program, asides, begins, woven, chart)
        lots = {}
        for at, item in enumerate(chart):
            lots.setdefault(number[item[0]], []).append(at)
        lots = tuple(tuple(copies) for copies in lots.values() if len(copies) > 1)
        if lots:
            woven, chart = self.turn(("join", lots), program, asides, begins, woven, chart)
        order = tuple(sorted(range(len(chart)), key=lambda at: number[chart[at][0]]))
        self.assertEqual(self.turn(("order", order), program, asides, begins, woven, chart), (wanted, parts))

    def test_the_way_back_with_nodes_that_are_not_come_to(self):
        program = program_of((REST,), called(0), called(0))
        woven, chart = weave(program, QUIET, ())
        wider = (chart[0] + (function(0, 1),), chart[1] + (function(2, 1),))
        told = self.turn(("order", (1, 0)), program, QUIET, (), woven, wider)
        told = self.turn(("drop",), program, QUIET, (), *told)
        self.assertEqual(self.turn(("order", (1, 0)), program, QUIET, (), *told), (woven, wider))

    def test_many_copies(self):
        program = ((), ((1, (("if", SLOT, (("call", 0, 0, (SLOT,)), TELL), ()),)), (0, (("call", 0, 0, (ONE,)),))))
        asides = tuple(aside(name, "behind", TELLS, ("star", ("row", (("any",),) * length)), ("n", 0)) for name, length in enumerate((7, 11, 13)))
        self.assertEqual(len(nodes(program, asides, ())), 1002)
        woven, chart = weave(program, asides, ())
        self.assertEqual([len(item) for item in chart], [1001, 1])
        one_each = (woven[:2] + (tuple(
            (0, mapped(woven[2][0][1], lambda place, number, old: (at + 1) % 1001)) for at in range(1001)
        ) + ((1, mapped(woven[2][1][1], lambda place, number, old: 0)),), 1001), None)
        states, items = chart[1][0][1], []
        for _ in range(1001):
            states = tuple((state + 1) % length for state, length in zip(states, (7, 11, 13)))
            items.append(((0, states, None, ()),))
        right = (one_each[0], tuple(items) + (chart[1],))
        with few_calls():
            self.assertIsNone(judge(program, asides, (), *right))
            self.assertEqual(turned(program, asides, (), *right, ("drop",)), right)
            order = tuple(reversed(range(1002)))
            other = turned(program, asides, (), *right, ("order", order))
            self.assertEqual(turned(program, asides, (), *other, ("order", order)), right)
            joined = turned(program, asides, (), *other, ("join", (tuple(range(1, 1002)),)))
            self.assertEqual(turned(program, asides, (), *joined, ("order", (1, 0))), (woven, chart))


if __name__ == "__main__":
    unittest.main()
