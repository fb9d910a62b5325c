"""The examples of the parts E and F, word for word, each part with the names that it sets."""

import unittest

from examples import check_examples

PART_E = r"""
    >>> from asidewoven.nodes import all_chains, chains, dead, ends, meeting, nodes, ringing, runnable, way_holds, way_to
    >>> small = ((0,), ((1, (("tell", ("v", 0)), ("answer", ("v", 0)))), (0, (("call", 0, 0, (("n", 3),)), ("put", 0, ("v", 0))))))
    >>> within = ((7, "before", (("tell", None),), ("row", (("letters", (1,)), ("letters", (0,)))), ("n", 1), (("rest",),)),)
    >>> nodes(small, within, ())
    ((-8, (1,), None, ()), (0, (3,), None, ()), (1, (2,), None, ()))
    >>> ends(small, within, ())
    (((-8, (1,), None, ()), False, True, ()), ((0, (3,), None, ()), True, False, (3,)), ((1, (2,), None, ()), False, True, (3,)))
    >>> loop = ((), ((0, (("call", 0, 0, ()), ("tell", ("n", 1)))), (0, (("try", (("call", 0, 0, ()),), (3,), 1, (("tell", ("n", 2)),)), ("fault", 5)))))
    >>> ends(loop, (), ())
    (((0, (), None, ()), False, False, (3,)), ((1, (), None, ()), False, False, (5,)))
    >>> nodes(small, within, ((1, 0), (1, 0, 0)))
    ((-8, (1,), None, ()), (0, (1,), None, ()), (0, (3,), None, ()), (1, (2,), None, ()))
    >>> chains(small, within, (), (1, (2,), None, ()))
    (((0,), (), ('call', 0, (0, (3,), None, ()))), ((1,), (), ('put', 0, None)))
    >>> chains(small, within, (), (0, (3,), None, ())), chains(small, within, (), (0, (0,), None, ()))
    ((((0,), ((0, (-8, (1,), None, ())),), ('tell', None, None)),), (((0,), (), ('tell', None, None)),))
    >>> runnable(small, within, (), (0, (0,), None, ())), runnable(loop, (), (), (0, (), None, ())), runnable(loop, (), (), (1, (), None, ()))
    (((0,), (1,)), ((0,),), ((0,), (0, 0, 0), (0, 1, 0), (1,)))
    >>> runnable(small, within, (), (0, (4,), None, ()))
    raises NoNode((0, (4,), None, ()))
    >>> halted = ((), ((0, (("fault", 5),)), (0, (("call", 0, 0, ()), ("rest",), ("tell", ("n", 1))))))
    >>> runnable(halted, (), (), (1, (), None, ())), runnable(halted, (), ((1,),), (1, (), None, ()))
    (((0,),), ((0,), (1,), (2,)))
    >>> chains(halted, (), (), (1, (), None, ())), chains(halted, (), ((1,),), (1, (), None, ()))[1]
    ((((0,), (), ('call', 0, (0, (), None, ()))), ((2,), (), None)), ((2,), (), ('tell', None, None)))
    >>> ends(halted, (), ())[1], ends(halted, (), ((1,),))[1]
    (((1, (), None, ()), False, False, (3, 5)), ((1, (), None, ()), False, True, (3, 5)))
    >>> all_chains(halted, (), ())
    (((0, (), None, ()), ()), ((1, (), None, ()), (((0,), (), ('call', 0, (0, (), None, ()))), ((2,), (), None))))
    >>> keep = ((5,), ((0, (("get", 0, 0), ("answer", ("v", 0)))),))
    >>> rows = (("get", 0, 0), ("on", 1, ()), ("answer", ("v", 1)))
    >>> once, always = ((9, "around", (("get", None),), ("letters", (0,)), ("n", 1), rows),), ((9, "around", (("get", None),), ("star", ("any",)), ("n", 1), rows),)
    >>> ends(keep, once, ())
    (((-10, (1,), ('get', 0), ()), True, False, ()), ((0, (2,), None, ()), True, False, (3,)))
    >>> ends(keep, always, ()), runnable(keep, always, (), (-10, (0,), ("get", 0), ()))
    ((((-10, (0,), ('get', 0), ()), False, False, (3,)), ((0, (0,), None, ()), False, False, (3,))), ((0,),))
    >>> way_to(small, within, (), (-8, (1,), None, ())), way_to(small, within, ((1, 0),), (-8, (1,), None, ()))
    (((1, (2,), None, ()), (0, (3,), None, ()), (-8, (1,), None, ())), ((0, (3,), None, ()), (-8, (1,), None, ())))
    >>> way_holds(small, within, (), (1, (2,), None, ()), ((1, (2,), None, ()),)), way_holds(small, within, (), (0, (0,), None, ()), ())
    (True, False)
    >>> way_to(small, within, (), (0, (0,), None, ()))
    raises NoNode((0, (0,), None, ()))
    >>> one = ((), ((0, (("tell", ("n", 4)),)),))
    >>> both = ((1, "before", (("tell", None),), ("star", ("any",)), ("n", 1), ()), (2, "behind", (("tell", None),), ("star", ("any",)), ("v", 0), ()))
    >>> lead = ((4, "around", (("tell", None),), ("star", ("any",)), ("n", 1), (("on", 0, (("n", 9),)),)), (5, "before", (("tell", None),), ("star", ("any",)), ("n", 1), ()))
    >>> chains(one, both, (), (0, (0, 0), None, ()))
    (((0,), ((0, (-2, (0, 0), None, ())), (1, (-3, (0, 0), None, ()))), ('tell', None, None)),)
    >>> chains(one, lead, (), (0, (0, 0), None, ())), chains(one, lead, (), (-5, (0, 0), ("tell", None), (1,)))
    ((((0,), ((0, (-5, (0, 0), ('tell', None), (1,))),), None),), (((0,), ((1, (-6, (0, 0), None, ())),), ('tell', None, None)),))
    >>> meeting(one, both, 0, 1), meeting(one, lead, 0, 1), meeting(small, within, 0, 0)
    (((0, (0, 0), None, ()), (0,)), ((0, (0, 0), None, ()), (0,)), ((0, (3,), None, ()), (0,)))
    >>> dead(one, both + ((3, "before", (("tell", None),), ("none",), ("n", 1), ()),)), ringing(one, both), ringing(keep, always), ringing(keep, once)
    ((2,), None, ((-10, (0,), ('get', 0), ()),), None)
"""

PART_F = r"""
    >>> from asidewoven.classes import classes, classes_hold, parting, parting_holds
    >>> from asidewoven.free import free_run
    >>> everywhere, one = ("star", ("any",)), ("n", 1)
    >>> said = ((), ((1, (("tell", ("v", 0)),)), (0, (("call", 1, 0, (("n", 3),)), ("answer", ("v", 1))))))
    >>> log = (7, "before", (("call", None),), everywhere, one, (("tell", ("n", 9)),))
    >>> free_run(said, (log,), ()), free_run(said, (log,), (0,)), free_run(said, (log,), (1,))
    (((('body', 1),), ()), ((('body', 1), ('body', -8)), (1,)), ((('body', 1),), ()))
    >>> notes, pile = free_run(said, (log,), (0, 0, 0))
    >>> notes[:4], notes[4:], pile
    ((('body', 1), ('body', -8), ('deed', 'tell', None), ('end', -8)), (('body', 0), ('deed', 'tell', None), ('end', 0), ('end', 1)), ())
    >>> free_run(said, (log,), (0, 1))
    ((('body', 1), ('body', -8), ('end', 1)), ())
    >>> below = ("row", (everywhere, ("letters", (1,)), everywhere))
    >>> g, h = (0, (("tell", one),)), (0, (("call", 0, 0, ()),))
    >>> twice = ((), (g, h, (0, (("call", 0, 0, ()), ("call", 0, 1, ())))))
    >>> watch = (0, "before", (("tell", None),), below, one, ())
    >>> classes(twice, (watch,), ())
    (((-1, (1,), None, ()),), ((0, (0,), None, ()),), ((0, (1,), None, ()),), ((1, (1,), None, ()),), ((2, (0,), None, ()),))
    >>> quiet = watch[:4] + (("n", 0), ())
    >>> classes(twice, (quiet,), ())
    (((0, (0,), None, ()), (0, (1,), None, ())), ((1, (1,), None, ()),), ((2, (0,), None, ()),))
    >>> classes_hold(twice, (quiet,), (), (((0, (0,), None, ()),), ((0, (1,), None, ()),), ((1, (1,), None, ()),), ((2, (0,), None, ()),)))
    True
    >>> parting_holds(twice, (watch,), (0, (0,), None, ()), (0, (1,), None, ()), ((0, 0), (0, 0, 0, 0), ()))
    True
    >>> parting_holds(twice, (watch,), (0, (0,), None, ()), (0, (1,), None, ()), ((0, 0), (0, 0), ()))
    False
    >>> parting(twice, (quiet,), (0, (0,), None, ()), (0, (1,), None, ()))
    raises NoPart((0, (0,), None, ()), (0, (1,), None, ()))
"""


class Examples(unittest.TestCase):
    def test_part_e(self):
        check_examples(self, PART_E)

    def test_part_f(self):
        check_examples(self, PART_F)


if __name__ == "__main__":
    unittest.main()
