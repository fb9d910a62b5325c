"""The examples of the parts A to D, word for word, each part with the names that it sets."""

import unittest

from examples import check_examples

PART_A = r"""
    >>> from asidewoven.programs import asides_error, body_at, letters_of, program_error, rows_of
    >>> adds = ((7,), ((1, (("answer", ("plus", ("v", 0), ("n", 1))),)), (0, (("call", 0, 0, (("n", 5),)), ("tell", ("v", 0))))))
    >>> watch = (3, "before", (("call", 0), ("tell", None)), ("star", ("any",)), ("n", 1), (("tell", ("v", 0)),))
    >>> program_error(adds), program_error(None), program_error((7, ())), program_error(((), ())), program_error(((), ((1, ()),)))
    (None, 'form', 'cells', 'functions', ((0,), 'function'))
    >>> [program_error(((), ((0, (row,)),))) for row in (("set", 8, ("n", 1)), ("get", 0, 0), ("if", ("n", 1), (("rest",), ("on", 0, ())), ()))]
    [((0, 0), 'row'), ((0, 0), 'row'), ((0, 0, 0, 1), 'row')]
    >>> asides_error(adds, (watch,)), asides_error(adds, (watch, watch)), asides_error(adds, [watch]), asides_error(adds, (watch[:5],))
    (None, (1, 'name'), 'form', (0, 'aside'))
    >>> [asides_error(adds, (watch[:at] + (item,) + watch[at + 1:],)) for at, item in ((2, (("call", 2),)), (3, ("row", ())), (4, ("v", 8)), (5, (("on", 0, ()),)))]
    [(0, 'moments'), (0, 'part'), (0, 'test'), (0, 'rows')]
    >>> rows_of((("rest",), ("try", (("ask", 0),), (2,), 1, (("tell", ("v", 1)),))))
    (((0,), ('rest',)), ((1,), ('try', (('ask', 0),), (2,), 1, (('tell', ('v', 1)),))), ((1, 0, 0), ('ask', 0)), ((1, 1, 0), ('tell', ('v', 1))))
    >>> letters_of(adds, (watch,)), body_at(adds, (watch,), -4), rows_of(body_at(adds, (), 0))
    ((-4, 0, 1), (('tell', ('v', 0)),), (((0,), ('answer', ('plus', ('v', 0), ('n', 1)))),))
    >>> body_at(adds, (), -4)
    raises Unfit()
    >>> from asidewoven.texts import asides_text, parse_asides, parse_program, program_text
    >>> program_text(adds).split("\n")
    ['cells 7', 'function 1', 'answer (plus v0 1)', 'end', 'function 0', 'call 0 0 5', 'tell v0', 'end']
    >>> branch = ((), ((0, (("if", ("below", ("v", 0), ("n", -2)), (("rest",),), ()), ("try", (), (1, 4), 3, (("fault", 9),)))),))
    >>> program_text(branch).split("\n")
    ['cells none', 'function 0', 'if (below v0 -2)', 'rest', 'else', 'end', 'try', 'catch 3 1 4', 'fault 9', 'end', 'end']
    >>> parse_program(program_text(adds)) == adds, parse_program(program_text(branch)) == branch
    (True, True)
    >>> parse_program("cells 7\nfunction 0\ntell v0")
    raises BadText(3)
    >>> parse_program("cells 07\nfunction 0\nend")
    raises BadText(0)
    >>> parse_program("cells none\nfunction 0\nset 8 1\nend")
    raises BadProgram(((0, 0), 'row'))
    >>> asides_text((watch,)).split("\n"), parse_asides(adds, asides_text((watch,))) == (watch,), asides_text(())
    (['aside 3 before', 'moments call 0 tell', 'part (star any)', 'test 1', 'tell v0', 'end'], True, '')
    >>> again = (4, "around", (("get", None),), ("row", (("letters", (1, -4)), ("not", ("none",)))), ("same", ("v", 0), ("n", 0)), (("on", 0, (("n", 2),)), ("answer", ("v", 0))))
    >>> asides_text((again,)).split("\n")
    ['aside 4 around', 'moments get any', 'part (row (letters 1 -4) (not none))', 'test (same v0 0)', 'on 0 2', 'answer v0', 'end']
    >>> parse_asides(branch, "aside 5 before\nmoments get 0\npart any\ntest 1\nend")
    raises BadAside(0, 'moments')
    >>> parse_asides(adds, asides_text((watch,)) + "\n" + asides_text((watch,)))
    raises BadAside(1, 'name')
    >>> parse_asides(adds, "aside 3 before\nmoments tell any\npart any\ntest 1\nend")
    raises BadText(1)
"""

PART_B = r"""
    >>> from asidewoven.machine import moments, openings, run
    >>> twice = ((5,), ((1, (("answer", ("times", ("v", 0), ("n", 2))),)), (0, (("ask", 0), ("call", 1, 0, (("v", 0),)), ("tell", ("v", 1)), ("put", 0, ("v", 1)), ("get", 2, 0), ("answer", ("v", 2))))))
    >>> run(twice, (), (4,), 99), run(twice, (), (), 99), run(twice, (), (10 ** 18,), 99), run(twice, (), (4,), 3)
    (((('tell', 8),), ('answer', 8), 7), ((), ('fault', 2), 1), ((), ('fault', 0), 3), ((), ('bound',), 3))
    >>> moments(twice, (), (4,), 3), openings(twice, (), (4,), 99)
    ((('ask', None, (), (1,), ()), ('call', 0, (4,), (1,), ())), ((1,), (1, 0)))
    >>> all_piles = ("star", ("any",))
    >>> watch = (7, "before", (("call", 0),), all_piles, ("n", 1), (("tell", ("v", 0)),))
    >>> run(twice, (watch,), (4,), 99), moments(twice, (watch,), (4,), 4)[1:]
    (((('tell', 4), ('tell', 8)), ('answer', 8), 8), (('call', 0, (4,), (1,), (0,)), ('tell', None, (4,), (1, -8), ())))
    >>> more = (("if", ("v", 0), (("answer", ("n", 0)),), (("answer", ("plus", ("v", 1), ("v", 2))),)),)
    >>> clip = (2, "behind", (("call", None),), all_piles, ("below", ("n", 3), ("v", 2)), more)
    >>> run(twice, (clip,), (4,), 99), run(twice, (clip,), (2,), 99), run(twice, (clip,), (10 ** 18,), 99)
    (((('tell', 12),), ('answer', 12), 9), ((('tell', 4),), ('answer', 4), 7), ((('tell', 0),), ('answer', 0), 9))
    >>> again = (0, "around", (("call", 0),), all_piles, ("n", 1), (("on", 1, (("plus", ("v", 0), ("n", 1)),)), ("on", 2, ()), ("answer", ("plus", ("v", 1), ("v", 2)))))
    >>> run(twice, (again,), (4,), 99), openings(twice, (again,), (4,), 99)
    (((('tell', 18),), ('answer', 18), 11), ((1,), (1, -1), (1, -1, 0), (1, -1, 0)))
    >>> run(twice, (again, clip), (4,), 99), run(twice, (clip, again), (4,), 99)
    (((('tell', 27),), ('answer', 27), 15), ((('tell', 22),), ('answer', 22), 13))
    >>> openings(twice, (again, clip), (4,), 99)[3:], openings(twice, (clip, again), (4,), 99)[4:]
    (((1, -1, -3), (1, -1, 0), (1, -1, -3)), ((1, -3),))
    >>> caught = ((), ((0, (("try", (("set", 0, ("part", ("n", 1), ("n", 0))),), (0, 1), 3, (("tell", ("v", 3)),)), ("answer", ("v", 3)))),))
    >>> deep = ((), ((0, (("call", 0, 0, ()),)),))
    >>> run(caught, (), (), 99), run(deep, (), (), 999), run(deep, (), (), 5), run(((), ((0, ()),)), (), (), 0)
    (((('tell', 1),), ('answer', 1), 4), ((), ('fault', 3), 60), ((), ('bound',), 5), ((), ('answer', 0), 0))
"""

PART_C = r"""
    >>> from asidewoven.piles import first_pile, has_pile, pile_machine, unlike_pile
    >>> every = ("star", ("any",))
    >>> top, with_one = ("row", (every, ("letters", (0,)))), ("row", (every, ("letters", (1,)), every))
    >>> has_pile(top, (1, 0)), has_pile(top, (0, 1)), has_pile(with_one, (2, 1, 7)), has_pile(("not", with_one), ()), has_pile(("none",), (0,))
    (True, False, True, True, False)
    >>> has_pile(("star", ("row", (("letters", (0,)), ("any",)))), (0, 5, 0, 0)), has_pile(("star", ("row", (("letters", (0,)), ("any",)))), (0, 5, 0))
    (True, False)
    >>> pile_machine(top, (0, 1)), pile_machine(("letters", (0,)), (0, 1))
    ((((1, 0), (1, 0)), (False, True)), (((1, 2), (2, 2), (2, 2)), (False, True, False)))
    >>> pile_machine(every, (-3, 0)), pile_machine(("not", ("none",)), (0,)), pile_machine(("any",), ())
    ((((0, 0),), (True,)), (((1,), (1,)), (False, True)), (((),), (False,)))
    >>> pile_machine(("row", (every, ("letters", (0,))) + (("any",),) * 6), (0, 1))
    raises TooMany(64)
    >>> unlike_pile(every, top, (0, 1)), unlike_pile(("letters", (0,)), ("any",), (0, 1)), unlike_pile(("letters", (0,)), ("any",), (0,))
    ((), (1,), None)
    >>> first_pile(with_one, (0, 1, 2)), first_pile(("and", (("not", ("none",)), ("star", ("letters", (1,))))), (0, 1)), first_pile(("and", (("none",), ("any",))), (0, 1))
    ((1,), (1,), None)
"""

PART_D = r"""
    >>> from asidewoven.fits import fits_at, settled, states_at
    >>> program = ((0,), ((0, (("get", 0, 0), ("answer", ("v", 0)))), (0, (("call", 0, 0, ()), ("tell", ("v", 0))))))
    >>> one = (5, "before", (("call", None), ("call", 0)), ("star", ("any",)), ("n", 1), (("rest",),))
    >>> two = (2, "around", (("get", 0), ("put", None)), ("row", (("star", ("any",)), ("letters", (0,)))), ("n", 1), (("on", 0, ()), ("answer", ("v", 0))))
    >>> fits_at((one, two), "call", 0, (1,)), fits_at((one, two), "get", 0, (1, 0)), fits_at((one, two), "get", 0, (1,)), fits_at((one, two), "get", 1, (1, 0)), fits_at((one, two), "put", 7, (1, 0))
    ((0,), (1,), (), (), (1,))
    >>> states_at(program, (one, two), ()), states_at(program, (one, two), (1, 0)), states_at(program, (one, two), (1, 0, -3))
    ((0, 0), (0, 1), (0, 0))
    >>> states_at(program, (one, two), (1, 2))
    raises Unfit()
    >>> settled(program, (one, two), "call", 1), settled(program, (one, two), "get", 0), settled(program, (one, two), "ask", None)
    (('always', 'never'), ('never', 'pile'), ('never', 'never'))
    >>> settled(program, ((3, "behind", (("ask", None),), ("and", (("none",), ("any",))), ("n", 1), (("rest",),)),), "ask", None)
    ('never',)
"""


class Examples(unittest.TestCase):
    def test_part_a(self):
        check_examples(self, PART_A)

    def test_part_b(self):
        check_examples(self, PART_B)

    def test_part_c(self):
        check_examples(self, PART_C)

    def test_part_d(self):
        check_examples(self, PART_D)


if __name__ == "__main__":
    unittest.main()
