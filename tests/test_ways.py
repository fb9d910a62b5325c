"""What way_to, way_holds, meeting, dead and ringing tell: [E7], [E8]."""

import copy
import unittest

from asidewoven.errors import AsideError, NoNode
from asidewoven.nodes import all_chains, chains, dead, meeting, nodes, ringing, runnable, way_holds, way_to
from asidewoven.programs import body_at, rows_of
from node_oracle import NodeOracle
from samples import NO_TUPLES, ONE, REST
from test_nodes import CALL, EVERY, SLOT, TELL, TELLS, aside, function, made


def caught(f):
    return ("try", (("call", 0, f, ()),), (3,), 0, ())


class Ways(unittest.TestCase):
    # 3 calls 2 and 1, 2 calls 1, 1 calls 0, and 0 calls 2.
    PROGRAM = ((), ((0, (caught(2),)), (0, (caught(0),)), (0, (caught(1),)), (0, (caught(2), caught(1)))))

    def check(self, node, *ways, begins=(), program=PROGRAM, asides=()):
        """The shortest ways to a node are these."""
        self.assertIn(way_to(program, asides, begins, node), ways)
        for way in ways:
            self.assertIs(way_holds(program, asides, begins, node, way), True)

    def test_a_shortest_way(self):
        main, two, one, zero = (function(f) for f in (3, 2, 1, 0))
        self.check(main, (main,))
        self.check(two, (main, two))
        self.check(one, (main, one))
        self.check(zero, (main, one, zero))

    def test_other_ways_do_not_hold(self):
        main, two, one, zero = (function(f) for f in (3, 2, 1, 0))
        for node, way in (
            (one, (main, two, one)), (zero, (main, two, one, zero)), (zero, (one, zero)), (zero, (main, zero)), (zero, (main, two, zero)),
            (zero, (main, one)), (zero, (main, one, two)), (zero, (main, one, zero, two, one, zero)), (main, (main, main)), (main, ()),
            (zero, (zero,)), (zero, (two, one, zero)), (one, (one, main)), (two, (main, one)), (zero, (one, main, zero)),
        ):
            self.assertIs(way_holds(self.PROGRAM, (), (), node, way), False)

    def test_several_first_nodes(self):
        main, two, one, zero = (function(f) for f in (3, 2, 1, 0))
        self.check(one, (one,), begins=((3, 2, 1),))
        self.check(zero, (one, zero), begins=((3, 2, 1),))
        self.check(two, (main, two), begins=((3, 2, 1),))
        self.check(zero, (zero,), begins=((3, 1), (3, 1, 0)))
        self.check(two, (main, two), (zero, two), begins=((3, 1, 0),))
        self.check(main, (main,), begins=((3,), (3, 1)))
        self.assertIs(way_holds(self.PROGRAM, (), ((3, 1, 0),), one, (zero, two, one)), False)

    def test_two_shortest_ways(self):
        program = ((), ((0, ()), (0, (CALL,)), (0, (CALL,)), (0, (("call", 0, 1, ()), ("call", 0, 2, ())))))
        self.check(function(0), (function(3), function(1), function(0)), (function(3), function(2), function(0)), program=program)

    def test_through_asides(self):
        program = ((), ((0, ()), (0, (TELL,))))
        asides = (
            aside(0, "around", TELLS, ("letters", (1,)), ONE, (("on", 0, ()),)),
            aside(1, "behind", TELLS, ("letters", (1,)), ONE, (CALL,)),
        )
        oracle = NodeOracle(program, asides, ())
        main = oracle.at((1,))
        around = (-1, oracle.then(main[1], -1), ("tell", None), (1,))
        behind = (-2, oracle.then(around[1], -2), None, ())
        last = (0, oracle.then(behind[1], 0), None, ())
        self.check(last, (main, around, behind, last), program=program, asides=asides)
        self.assertIs(way_holds(program, asides, (), last, (main, behind, last)), False)

    def test_by_the_states(self):
        part = ("row", (EVERY, ("letters", (1,)), EVERY))
        program = ((), ((0, ()), (0, (CALL,)), (0, (CALL, ("call", 0, 1, ())))))
        asides = (aside(0, "before", TELLS, part),)
        self.check(function(0, 0), (function(2, 0), function(0, 0)), program=program, asides=asides)
        self.check(function(0, 1), (function(2, 0), function(1, 1), function(0, 1)), program=program, asides=asides)
        self.assertIs(way_holds(program, asides, (), function(0, 1), (function(2, 0), function(0, 1))), False)

    def test_nodes_that_are_not_come_to(self):
        part = ("row", (("any",), ("letters", (0,)), ("any",)))
        asides = (aside(0, "before", TELLS, part),)
        program = ((), ((0, ()), (0, (CALL,))))
        for node in (function(0, 0), function(1, 0), function(1, 3), (-1, (0,), None, ())):
            self.assertNotIn(node, nodes(program, asides, ()))
            self.assertIsNotNone(runnable(program, asides, (), node))
            with self.assertRaises(AsideError) as raised:
                way_to(program, asides, (), node)
            self.assertIs(raised.exception.__class__, NoNode)
            self.assertEqual(repr(raised.exception.node), repr(node))
            self.assertIs(way_holds(program, asides, (), node, (node,)), False)

    def test_values_that_are_no_way(self):
        main, one, zero = function(3), function(1), function(0)
        way = (main, one, zero)
        values = NO_TUPLES + ((), list(way), (None, one, zero), (main, [1, (), None, ()], zero), (main, one, (False, (), None, ())),
                              (main, (True, (), None, ()), zero), (main, (1, [], None, ()), zero), (main, {}, zero), (way,), main,
                              (main, one, (0, (), None, [])), ((3, (), None, ()), (1, ()), (0, (), None, ())), 4000 * (main,))
        for value in values:
            with self.subTest(value=repr(value)[:100]):
                self.assertIs(way_holds(self.PROGRAM, (), (), zero, value), False)
        self.assertIs(way_holds(self.PROGRAM, (), (), zero, way), True)
        for node in values[:-1]:
            if node != main:
                self.assertIs(way_holds(self.PROGRAM, (), (), node, way), False)

    def test_two_thousand_nodes_behind_one_another(self):
        asides = tuple(aside(name, "before", (("ask", None),), ("star", ("row", (("any",),) * length)))
                       for name, length in enumerate((4, 9, 5, 11)))
        program = ((), ((0, (CALL,)),))
        far = function(0, 0, 0, 0, 0)
        way = way_to(program, asides, (), far)
        self.assertEqual(len(way), 1980)
        self.assertIs(way_holds(program, asides, (), far, way), True)
        self.assertIs(way_holds(program, asides, (), far, way[:5] + way[4:5] + way[6:]), False)

    def test_ways_made(self):
        for seed in range(120):
            program, asides, begins = made(seed)
            oracle = NodeOracle(program, asides, begins)
            lengths = oracle.way_lengths()
            for node in sorted(oracle.found)[-6:]:
                with self.subTest(seed=seed, node=node):
                    way = way_to(program, asides, begins, node)
                    self.assertEqual((len(way), way[-1]), (lengths[node], node))
                    self.assertIn(way[0], oracle.first)
                    self.assertTrue(all(further in oracle.opens[one] for one, further in zip(way, way[1:])))
                    self.assertIs(way_holds(program, asides, begins, node, way), True)
                    self.assertIs(way_holds(program, asides, begins, node, way[1:]), False)


class Meeting(unittest.TestCase):
    PROGRAM = ((), ((0, (REST, TELL, TELL)),))
    TOP = ("letters", (0,))

    def check(self, asides, wanted, program=PROGRAM):
        """wanted has for pairs of places the place of the row of the main function, or None."""
        main = NodeOracle(program, asides, ()).at((len(program[1]) - 1,))
        for (a, b), place in wanted.items():
            told = None if place is None else (main, place)
            with self.subTest(a=a, b=b):
                self.assertEqual(repr(meeting(program, asides, a, b)), repr(told))
                self.assertEqual(repr(meeting(program, asides, b, a)), repr(told))

    def test_links_of_one_row(self):
        asides = (aside(1, "before", TELLS, self.TOP), aside(2, "behind", TELLS, self.TOP), aside(3, "before", (("ask", None),)))
        self.check(asides, {(0, 1): (1,), (0, 0): (1,), (1, 1): (1,), (0, 2): None, (2, 2): None})

    def test_by_ons_within_ons(self):
        on = (("on", 0, ()),)
        asides = tuple(aside(name, "around", TELLS, self.TOP, ONE, on) for name in range(3)) + (aside(9, "before", TELLS, self.TOP),)
        self.check(asides, {(a, b): (1,) for a in range(4) for b in range(4)})

    def test_without_an_on(self):
        asides = (aside(1, "around", TELLS, self.TOP), aside(2, "before", TELLS, self.TOP))
        self.check(asides, {(0, 1): None, (0, 0): (1,), (1, 1): None})
        asides = (aside(1, "around", TELLS, self.TOP, SLOT), aside(2, "before", TELLS, self.TOP))
        self.check(asides, {(0, 1): (1,)})

    def test_ons_that_are_not_runnable(self):
        for rows, place in (((("fault", 1), ("on", 0, ())), None), ((("if", ("n", 0), (("on", 0, ()),), ()),), None),
                            ((("if", SLOT, (("on", 0, ()),), ()),), (1,))):
            asides = (aside(1, "around", TELLS, self.TOP, ONE, rows), aside(2, "before", TELLS, self.TOP))
            self.check(asides, {(0, 1): place})

    def test_not_by_moments_within_bodies(self):
        # The body of the first aside begins a moment of its own, at which the second one is run.
        asides = (aside(1, "before", TELLS, self.TOP, ONE, (("ask", 0),)), aside(2, "before", (("ask", None),)))
        self.check(asides, {(0, 1): None})
        asides = (aside(1, "around", TELLS, self.TOP, ONE, (("ask", 0), ("on", 0, ()))), aside(2, "before", (("ask", None),)))
        self.check(asides, {(0, 1): None})

    def test_tests_that_are_0_and_bodies_that_fault(self):
        asides = (aside(1, "before", TELLS, self.TOP, ("n", 0)), aside(2, "before", TELLS, self.TOP))
        self.check(asides, {(0, 1): None, (0, 0): None, (1, 1): (1,)})
        asides = (aside(1, "before", TELLS, self.TOP, ONE, (("fault", 1),)), aside(2, "before", TELLS, self.TOP))
        self.check(asides, {(0, 1): None, (1, 1): None})

    def test_the_first_pair(self):
        program = ((1,), ((0, (("get", 0, 0), TELL)), (0, (TELL, CALL))))
        both = (("tell", None), ("get", None))
        part = ("or", (("letters", (1,)), ("row", (("any",), ("letters", (0,))))))
        asides = (aside(1, "before", both, part), aside(2, "before", both, part), aside(3, "before", TELLS, ("letters", (1,))))
        oracle = NodeOracle(program, asides, ())
        self.assertEqual(meeting(program, asides, 0, 1), (oracle.at((1, 0)), (0,)))
        self.assertEqual(meeting(program, asides, 0, 2), (oracle.at((1,)), (0,)))
        # Nodes of asides are less than those of functions.
        asides = (aside(5, "before", TELLS, part, ONE, (REST, ("ask", 0))), aside(1, "before", (("ask", None),)), aside(2, "behind", (("ask", None),)))
        self.assertEqual(meeting(program, asides, 1, 2), ([node for node in nodes(program, asides, ()) if node[0] == -6][0], (1,)))

    def test_places_within_rows(self):
        program = ((), ((0, (("if", SLOT, (REST, TELL), (TELL,)), TELL)),))
        asides = (aside(1, "before", TELLS, self.TOP), aside(2, "before", TELLS, self.TOP))
        self.check(asides, {(0, 1): (0, 0, 1)}, program)
        program = ((), ((0, (("if", ("n", 0), (REST, TELL), (TELL,)), TELL)),))
        self.check(asides, {(0, 1): (0, 1, 0)}, program)
        program = ((), ((0, (("if", ("n", 0), (TELL,), ()), ("answer", ONE), TELL)),))
        self.check(asides, {(0, 1): None}, program)

    def test_at_one_row_but_in_unlike_states(self):
        # Both are run at the tell of function 0, one of them only when 1 is below, the other only when it is not.
        below = ("row", (EVERY, ("letters", (1,)), EVERY))
        program = ((), ((0, (TELL,)), (0, (CALL,)), (0, (CALL, ("call", 0, 1, ())))))
        asides = (aside(1, "before", TELLS, below), aside(2, "before", TELLS, ("not", below)))
        self.assertIsNone(meeting(program, asides, 0, 1))
        self.assertEqual(meeting(program, asides, 0, 0)[0], function(0, 1, 1))

    def test_made(self):
        for seed in range(80):
            program, asides, _ = made(seed)
            oracle = NodeOracle(program, asides, ())
            told = {node: {place: (links, deed) for place, links, deed in row} for node, row in all_chains(program, asides, ())}
            for a in range(len(asides)):
                for b in range(len(asides)):
                    wanted = self.first(oracle, told, a, b)
                    self.assertEqual(repr(meeting(program, asides, a, b)), repr(wanted))

    def first(self, oracle, told, a, b):
        for node in sorted(told):
            for place in sorted(told[node]):
                row = [row for at, row in self.rows(oracle, node) if at == place][0]
                if row[0] != "on" and place in oracle.runnable[node]:
                    taking = self.taking(oracle, told, told[node][place][0])
                    if {a, b} <= taking:
                        return (node, place)
        return None

    def rows(self, oracle, node):
        return rows_of(body_at(oracle.program, oracle.asides, node[0]))

    def taking(self, oracle, told, links):
        found = set()
        for place, node in links:
            found.add(place)
            if node[2] is not None:
                for at, row in self.rows(oracle, node):
                    if row[0] == "on" and at in oracle.runnable[node]:
                        found |= self.taking(oracle, told, told[node][at][0])
        return found


class Dead(unittest.TestCase):
    def test_told(self):
        program = ((), ((0, (("ask", 0),)), (0, (TELL, ("answer", ONE), CALL))))
        asides = (
            aside(1, "before", TELLS), aside(2, "before", (("ask", None),)), aside(9, "around", TELLS, ("none",)),
            aside(3, "behind", TELLS, EVERY, ("n", 0)), aside(0, "before", (("call", 0),)), aside(4, "behind", (("tell", None),)),
        )
        self.assertEqual(dead(program, asides), (1, 2, 3, 4))
        self.assertEqual(dead(program, asides[:1]), ())
        self.assertEqual(dead(program, ()), ())

    def test_behind_asides_that_keep_others_away(self):
        program = ((), ((0, (TELL,)),))
        around = aside(1, "around", TELLS)
        self.assertEqual(dead(program, (around, aside(0, "before", TELLS))), (1,))
        self.assertEqual(dead(program, (aside(0, "before", TELLS), around)), ())
        self.assertEqual(dead(program, (around[:5] + ((("on", 0, ()),),), aside(0, "before", TELLS))), ())

    def test_made(self):
        for seed in range(150):
            program, asides, _ = made(seed)
            letters = {node[0] for node in NodeOracle(program, asides, ()).found}
            wanted = tuple(place for place, one in enumerate(asides) if -1 - one[0] not in letters)
            self.assertEqual(repr(dead(program, asides)), repr(wanted))


class Ringing(unittest.TestCase):
    PROGRAM = ((1,), ((0, (("ask", 0),)), (0, (TELL,))))

    def check(self, program, asides, many=None):
        """There is a ring, of so many nodes if told, or there is none (0)."""
        told = ringing(program, asides)
        oracle = NodeOracle(program, asides, ())
        if many == 0:
            self.assertIsNone(told)
            return
        self.assertIs(told.__class__, tuple)
        self.assertTrue(told)
        for one, further in zip(told, told[1:] + told[:1]):
            self.assertIn(further, oracle.opens[one])
            self.assertLess(one[0], 0)
        if many is not None:
            self.assertEqual(len(told), many)

    def test_none(self):
        self.check(self.PROGRAM, (), 0)
        self.check(self.PROGRAM, (aside(0, "before", TELLS, EVERY, ONE, (REST,)),), 0)
        self.check(self.PROGRAM, (aside(0, "before", TELLS, ("letters", (1,)), ONE, (TELL,)),), 0)
        self.check(self.PROGRAM, (aside(0, "around", TELLS, EVERY, ONE, (("on", 0, ()),)),), 0)
        self.check(self.PROGRAM, (aside(0, "before", TELLS, EVERY, ("n", 0), (TELL,)),), 0)

    def test_one_aside(self):
        for form in ("before", "behind", "around"):
            self.check(self.PROGRAM, (aside(0, form, TELLS, EVERY, ONE, (TELL,)),), 1)
            self.check(self.PROGRAM, (aside(0, form, TELLS, EVERY, SLOT, (("if", SLOT, (TELL,), ()),)),), 1)

    def test_two_asides(self):
        asides = (aside(0, "before", TELLS, EVERY, ONE, (("ask", 0),)), aside(1, "behind", (("ask", None),), EVERY, ONE, (TELL,)))
        self.check(self.PROGRAM, asides, 2)
        self.check(self.PROGRAM, asides[:1], 0)
        self.check(self.PROGRAM, asides[1:], 0)

    def test_through_ons(self):
        asides = (aside(0, "around", TELLS, EVERY, ONE, (("on", 0, ()),)), aside(1, "behind", TELLS, EVERY, ONE, (TELL,)))
        self.check(self.PROGRAM, asides, 2)

    def test_not_through_functions(self):
        asides = (aside(0, "before", TELLS, EVERY, ONE, (CALL,)), aside(1, "behind", (("ask", None),), EVERY, ONE, (TELL,)))
        self.check(self.PROGRAM, asides, 0)

    def test_by_the_states(self):
        # Each body tells one letter higher; the aside fits in every third state, or in all but one.
        third = ("star", ("row", (("any",),) * 3))
        self.check(self.PROGRAM, (aside(0, "before", TELLS, ("row", (("any",), third)), ONE, (TELL,)),), 0)
        self.check(self.PROGRAM, (aside(0, "before", TELLS, ("not", third), ONE, (TELL,)),), 0)
        even = ("row", (("any",), ("star", ("row", (("any",), ("any",))))))
        asides = (aside(0, "before", TELLS, even, ONE, (TELL,)), aside(1, "before", TELLS, ("not", even), ONE, (TELL,)))
        self.check(self.PROGRAM, asides, 2)
        asides = tuple(aside(at, "before", TELLS, ("row", (("any",),) * at + (third,)), ONE, (TELL,)) for at in range(3))
        self.check(self.PROGRAM, asides, 3)

    def test_rows_that_are_never_come_to(self):
        self.check(self.PROGRAM, (aside(0, "before", TELLS, EVERY, ONE, (("answer", ONE), TELL)),), 0)
        self.check(self.PROGRAM, (aside(0, "before", TELLS, EVERY, ONE, (("if", ("n", 0), (TELL,), ()),)),), 0)

    def test_made(self):
        rings = 0
        for seed in range(200):
            program, asides, _ = made(seed)
            opens = NodeOracle(program, asides, ()).opens
            own = {node for node in opens if node[0] < 0}
            while True:
                left = {node for node in own if opens[node] & own}
                if left == own:
                    break
                own = left
            rings += 1 if own else 0
            self.check(program, asides, None if own else 0)
        self.assertLess(10, rings)


class Calls(unittest.TestCase):
    def test_the_same_again_and_nothing_changed(self):
        for seed in range(30):
            handed = made(seed)
            program, asides, begins = handed
            before, kept = repr(handed), copy.deepcopy(handed)
            node = nodes(*handed)[0]
            way = way_to(*handed, node)
            self.assertEqual(way_to(*kept, node), way)
            self.assertEqual(way_to(node=node, begins=begins, asides=asides, program=program), way)
            self.assertIs(way_holds(value=way, node=node, begins=begins, asides=asides, program=program), True)
            self.assertEqual(dead(asides=asides, program=program), dead(*kept[:2]))
            self.assertEqual(ringing(asides=asides, program=program), ringing(*kept[:2]))
            if asides:
                self.assertEqual(meeting(b=0, a=0, asides=asides, program=program), meeting(*kept[:2], 0, 0))
            self.assertEqual(chains(*handed, node), chains(*kept, node))
            self.assertEqual(repr(handed), before)


if __name__ == "__main__":
    unittest.main()
