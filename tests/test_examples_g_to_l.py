"""The examples of the parts G to L, word for word, each part with the names that it sets; H goes on with those of G."""

import unittest

from examples import check_examples

PART_G_H = r"""
    >>> from asidewoven.weaving import copies_of, free_woven, run_woven, weave
    >>> two = ((), ((0, (("tell", ("n", 7)),)), (0, (("call", 0, 0, ()),)), (0, (("call", 0, 0, ()), ("call", 0, 1, ())))))
    >>> within = ("row", (("star", ("any",)), ("letters", (1,)), ("letters", (0,))))
    >>> near = ((5, "before", (("tell", None),), within, ("n", 1), (("tell", ("n", 9)),)),)
    >>> woven, chart = weave(two, near, ())
    >>> chart
    (((-6, (0,), None, ()),), ((0, (0,), None, ()),), ((0, (2,), None, ()),), ((1, (1,), None, ()),), ((2, (0,), None, ()),))
    >>> woven[0], woven[1], woven[2][0], woven[2][1], woven[3]
    ((), (('before', ('n', 1)),), (-6, (('tell', ('n', 9), ((), ('tell', None, -1))),)), (0, (('tell', ('n', 7), ((), ('tell', None, -1))),)), 4)
    >>> woven[2][2], woven[2][3]
    ((0, (('tell', ('n', 7), (((0, 0),), ('tell', None, -1))),)), (1, (('call', 0, 0, (), ((), ('call', 0, 2))),)))
    >>> woven[2][4]
    (2, (('call', 0, 0, (), ((), ('call', 0, 1))), ('call', 0, 1, (), ((), ('call', 1, 3)))))
    >>> copies_of(woven, 0), copies_of(woven, 1), copies_of(woven, 3)
    ((1, 2), (3,), ())
    >>> run_woven(woven, (), 100), run_woven(woven, (), 4)
    (((('tell', 7), ('tell', 9), ('tell', 7)), ('answer', 0), 6), ((('tell', 7),), ('bound',), 4))
    >>> free_woven(woven, (0, 0, 0))
    ((('body', 2), ('body', 0), ('deed', 'tell', None), ('end', 0), ('body', 1), ('body', 0)), (2, 1))
    >>> free_woven(woven, (1,))
    ((('body', 2),), ())
    >>> taken = ("around", (("get", 0),), ("any",), ("n", 1), (("on", 1, ()), ("answer", ("plus", ("v", 1), ("n", 10)))))
    >>> seen = ("behind", (("get", None),), ("star", ("any",)), ("n", 1), (("tell", ("v", 1)),))
    >>> one, more = ((4,), ((0, (("get", 0, 0), ("tell", ("v", 0)))),)), ((1,) + taken, (2,) + seen)
    >>> woven, chart = weave(one, more, ())
    >>> chart, woven[3]
    ((((-3, (2, 0), None, ()),), ((-2, (2, 0), ('get', 0), (1,)),), ((0, (1, 0), None, ()),)), 2)
    >>> woven[2][1][1][0], woven[2][2][1][0]
    (('on', 1, (), (((1, 0),), ('get', 0, -1))), ('get', 0, 0, (((0, 1),), None)))
    >>> run_woven(woven, (), 9)
    ((('tell', 4), ('tell', 14)), ('answer', 0), 5)
    >>> asked = (more[0][:4] + (("v", 0),) + more[0][5:], more[1])
    >>> woven, chart = weave(one, asked, ())
    >>> woven[2][2][1][0], run_woven(woven, (), 9)
    (('get', 0, 0, (((0, 1), (1, 0)), ('get', 0, -1))), ((('tell', 4), ('tell', 4)), ('answer', 0), 3))
    >>> from asidewoven.charts import chart_error
    >>> from asidewoven.judging import judge
    >>> woven, chart = weave(two, near, ())
    >>> judge(two, near, (), woven, chart), judge(two, near, ((2, 1), (2, 1, 0)), woven, chart)
    (None, None)
    >>> chart_error(woven, chart[1:]), chart_error(woven, chart[:1] + ((),) + chart[2:]), chart_error(woven, chart[1:] + chart[:1])
    ('form', ('copy', 1), ('copy', 0))
    >>> other = woven[:2] + (woven[2][:3] + ((1, (("call", 0, 0, (), ((), ("call", 0, 1))),)),) + woven[2][4:], 4)
    >>> judge(two, near, (), other, chart), judge(two, near, (), woven[:3] + (3,), chart)
    (('chain', 3, (0,), (1, (1,), None, ())), ('entry',))
    >>> judge(two, (), (), woven, chart), judge(((5,),) + two[1:], near, (), woven, chart)
    ('tests', 'cells')
    >>> judge(two, near, (), woven, chart[:1] + (((0, (3,), None, ()),),) + chart[2:])
    ('node', 1, (0, (3,), None, ()))
    >>> last = (2, (("call", 0, 0, (), ((), ("call", 0, 1))), ("call", 0, 1, (), ((), ("call", 1, 5)))))
    >>> more = woven[:2] + (woven[2][:4] + (last, woven[2][3]), 4)
    >>> judge(two, near, (), more, chart + (chart[3],)), judge(two, near, (), more, chart)
    (None, ('chart', 'form'))
    >>> merged = woven[:2] + (woven[2][:2] + (woven[2][1],) + woven[2][3:], 4)
    >>> judge(two, near, (), merged, chart[:1] + (chart[1] + chart[2], chart[2]) + chart[3:])
    ('chain', 1, (0,), (0, (2,), None, ()))
"""

PART_I = r"""
    >>> from asidewoven.turnings import turned, turning_error
    >>> from asidewoven.weaving import weave
    >>> program = ((), ((0, (("rest",),)), (0, (("call", 0, 0, ()),)), (0, (("call", 0, 0, ()), ("call", 0, 1, ())))))
    >>> part = ("row", (("star", ("any",)), ("letters", (1,)), ("star", ("any",))))
    >>> asides = ((7, "before", (("ask", None),), part, ("n", 1), (("rest",),)),)
    >>> woven, chart = weave(program, asides, ())
    >>> chart
    (((0, (0,), None, ()), (0, (1,), None, ())), ((1, (1,), None, ()),), ((2, (0,), None, ()),))
    >>> woven[2]
    ((0, (('rest',),)), (1, (('call', 0, 0, (), ((), ('call', 0, 0))),)), (2, (('call', 0, 0, (), ((), ('call', 0, 0))), ('call', 0, 1, (), ((), ('call', 1, 1))))))
    >>> under = (0, (1,), None, ())
    >>> more, wider = turned(program, asides, (), woven, chart, ("split", 0, (under,)))
    >>> more[2][1], more[2][3], more[3], wider[0], wider[3]
    ((1, (('call', 0, 0, (), ((), ('call', 0, 3))),)), (0, (('rest',),)), 2, ((0, (0,), None, ()),), ((0, (1,), None, ()),))
    >>> turned(program, asides, (), more, wider, ("join", ((0, 3),))) == (woven, chart), turned(program, asides, (), woven, chart, ("drop",)) == (woven, chart)
    (True, True)
    >>> turned(program, asides, (), woven, chart, ("order", (2, 0, 1)))[0][2:], turning_error(program, asides, (), woven, chart, ("join", ((0, 1),))), turning_error(program, asides, (), woven, chart, ("split", 0, chart[0]))
    ((((2, (('call', 0, 0, (), ((), ('call', 0, 1))), ('call', 0, 1, (), ((), ('call', 1, 2))))), (0, (('rest',),)), (1, (('call', 0, 0, (), ((), ('call', 0, 1))),))), 0), 'letters', 'nodes')
    >>> turned(program, asides, (), woven, chart, ("order", (0, 1)))
    raises BadTurning('copies')
"""

PART_J = r"""
    >>> from asidewoven.exchange import run_exchanged, run_handed
    >>> g, one = (0, (("tell", ("n", 1)),)), ("n", 1)
    >>> paused = ((), (g, (0, (("call", 0, 0, ()), ("rest",), ("call", 0, 0, ())))))
    >>> noted = (3, "before", (("call", 0),), ("star", ("any",)), one, (("tell", ("n", 8)),))
    >>> run_exchanged(paused, (), ((paused, (noted,)),), (), 20)
    ((('tell', 1), ('tell', 8), ('tell', 1)), ('answer', 0), 6, 1)
    >>> louder = ((), ((0, (("tell", ("n", 2)),)), paused[1][1]))
    >>> run_exchanged(paused, (noted,), ((louder, ()), (paused, ())), (), 20)
    ((('tell', 8), ('tell', 1), ('tell', 2)), ('answer', 0), 6, 1)
    >>> slow = (4, "behind", (("call", 0),), ("star", ("any",)), one, (("rest",),))
    >>> run_exchanged(paused, (slow,), ((paused, (noted,)),), (), 20)
    ((('tell', 1), ('tell', 8), ('tell', 1)), ('answer', 0), 7, 1)
    >>> run_exchanged(paused, (), ((((5,), paused[1]), ()),), (), 20)
    raises Unfit()
    >>> run_handed(paused, (), ((paused, (noted,)),), (), 20)
    ((('tell', 1), ('tell', 8), ('tell', 1)), ('answer', 0), 6, 1, (2, 3))
"""

PART_K = r"""
    >>> from asidewoven.machine import moments
    >>> from asidewoven.why import first_unlike, why
    >>> twice = ((5,), ((1, (("answer", ("times", ("v", 0), ("n", 2))),)), (0, (("ask", 0), ("call", 1, 0, (("v", 0),)), ("tell", ("v", 1)), ("put", 0, ("v", 1)), ("get", 2, 0), ("answer", ("v", 2))))))
    >>> all_piles = ("star", ("any",))
    >>> watch = (7, "before", (("call", 0),), all_piles, ("n", 1), (("tell", ("v", 0)),))
    >>> inner = (5, "before", (("tell", None),), ("row", (("any",), ("letters", (-8,)))), ("n", 1), (("rest",),))
    >>> why(twice, (watch, inner), (4,), 99, 0), why(twice, (watch, inner), (4,), 99, 1)
    (((1,), 0, (0, 1)), ((1, -8), 1, (0, 2)))
    >>> why(twice, (watch, inner), (4,), 99, 2)
    raises NoMoment(2)
    >>> loud = (7, "before", (("call", 0),), ("or", (("none",), ("row", (("any",), all_piles)))), ("n", 1), (("tell", ("v", 0)),))
    >>> first_unlike(twice, (watch, inner), (inner, watch), (4,), 99), first_unlike(twice, (watch,), (loud,), (4,), 99)
    (None, None)
    >>> first_unlike(twice, (watch, inner), (watch,), (4,), 99), first_unlike(twice, (inner,), (watch, inner), (4,), 99)
    ((2, (1,), ()), (1, (), (0,)))
    >>> moments(twice, (watch,), (4,), 99)[2], first_unlike(twice, (watch, inner), (watch,), (4,), 2)
    (('tell', None, (4,), (1, -8), ()), None)
"""

PART_L = r"""
    >>> from asidewoven.benches import Bench
    >>> small = ((), ((0, (("tell", ("n", 1)), ("answer", ("n", 2)))),))
    >>> loud = (7, "before", (("tell", None),), ("any",), ("n", 1), (("tell", ("plus", ("v", 0), ("n", 8))),))
    >>> b = Bench(small, ())
    >>> [b.told((), 9), b.put(0, loud), b.told((), 9), b.version, len(b), b[0] == loud]
    [((('tell', 1),), ('answer', 2), 2), 1, ((('tell', 9), ('tell', 1)), ('answer', 2), 3), 1, 1, True]
    >>> [b.row(0, (1,), ("answer", ("n", 5))), b.told((), 9)[1], b.at(1)[0] == small, b.undo(), b.program == small, b.redo(), len(b.woven()[0][2])]
    [2, ('answer', 5), True, 1, True, 2, 2]
    >>> b.row(0, (2,), ("rest",))
    raises Unfit()
    >>> b.row(0, (1,), ("on", 0, ()))
    raises BadProgram(((0, 1), 'row'))
    >>> b.put(0, loud)
    raises BadAside(1, 'name')
    >>> b.batch((("out", 0), ("out", 0)))
    raises Rejected(1)
    >>> [b.version, b.batch(()), b.version, Bench(b.program, b.asides) == b]
    [2, 3, 3, True]
    >>> from asidewoven.shells import Shell
    >>> from asidewoven.texts import asides_text, program_text
    >>> s = Shell()
    >>> [s.say("asides"), s.say("program " + program_text(small).replace("\n", " / ")), s.say("run 9"), s.say("run 1")]
    ['no bench', 'ok', 'tell 1 / answer 2', 'tell 1 / bound']
    >>> [s.say("put 0 " + asides_text((loud,)).replace("\n", " / ")), s.say("asides"), s.say("run 9 4 -3"), s.say("woven"), s.say("out 1")]
    ['version 1', '7 before', 'tell 9 / tell 1 / answer 2', '2', 'error Unfit']
    >>> [s.say("undo"), s.say("undo"), s.say("put 0 "), s.say("put 0 aside"), s.say("run 01"), s.say("program"), s.say(7)]
    ['version 0', 'error NothingToUndo', 'what', 'error BadText', 'what', 'what', 'what']
"""


class Examples(unittest.TestCase):
    def test_part_g_h(self):
        check_examples(self, PART_G_H)

    def test_part_i(self):
        check_examples(self, PART_I)

    def test_part_j(self):
        check_examples(self, PART_J)

    def test_part_k(self):
        check_examples(self, PART_K)

    def test_part_l(self):
        check_examples(self, PART_L)


if __name__ == "__main__":
    unittest.main()
