"""The examples of part A, word for word."""

import unittest

from examples import check_examples

ERRORS = """
    >>> from asidewoven.programs import asides_error, body_at, letters_of, program_error, rows_of
    >>> adds = ((7,), ((1, (("answer", ("plus", ("v", 0), ("n", 1))),)), (0, (("call", 0, 0, (("n", 5),)), ("tell", ("v", 0))))))
    >>> watch = (3, "before", (("call", 0), ("tell", None)), ("star", ("any",)), ("n", 1), (("tell", ("v", 0)),))
    >>> program_error(adds), program_error(None), program_error((7, ())), program_error(((), ())), program_error(((), ((1, ()),)))
    (None, 'form', 'cells', 'functions', ((0,), 'function'))
    >>> [program_error(((), ((0, (row,)),))) for row in (("set", 8, ("n", 1)), ("get", 0, 0), ("if", ("n", 1), (("rest",), ("on", 0, ())), ()))]
    [((0, 0), 'row'), ((0, 0), 'row'), ((0, 0, 0, 1), 'row')]
    >>> asides_error(adds, (watch,)), asides_error(adds, (watch, watch)), asides_error(adds, [watch]), asides_error(adds, (watch[:5],))
    (None, (1, 'name'), 'form', (0, 'aside'))
    >>> [asides_error(adds, (watch[:at] + (item,) + watch[at + 1:],)) for at, item in ((2, (("call", 2),)), (3, ("row", ())), (4, ("v", 8)), (5, (("on", 0, ()),)))]
    [(0, 'moments'), (0, 'part'), (0, 'test'), (0, 'rows')]
"""

ROWS_AND_LETTERS = """
    >>> from asidewoven.programs import asides_error, body_at, letters_of, program_error, rows_of
    >>> adds = ((7,), ((1, (("answer", ("plus", ("v", 0), ("n", 1))),)), (0, (("call", 0, 0, (("n", 5),)), ("tell", ("v", 0))))))
    >>> watch = (3, "before", (("call", 0), ("tell", None)), ("star", ("any",)), ("n", 1), (("tell", ("v", 0)),))
    >>> rows_of((("rest",), ("try", (("ask", 0),), (2,), 1, (("tell", ("v", 1)),))))
    (((0,), ('rest',)), ((1,), ('try', (('ask', 0),), (2,), 1, (('tell', ('v', 1)),))), ((1, 0, 0), ('ask', 0)), ((1, 1, 0), ('tell', ('v', 1))))
    >>> letters_of(adds, (watch,)), body_at(adds, (watch,), -4), rows_of(body_at(adds, (), 0))
    ((-4, 0, 1), (('tell', ('v', 0)),), (((0,), ('answer', ('plus', ('v', 0), ('n', 1)))),))
    >>> body_at(adds, (), -4)
    raises Unfit()
"""

# Programs and asides of the further parts that have to be what they are called there.
FURTHER = """
    >>> from asidewoven.programs import asides_error, program_error
    >>> branch = ((), ((0, (("if", ("below", ("v", 0), ("n", -2)), (("rest",),), ()), ("try", (), (1, 4), 3, (("fault", 9),)))),))
    >>> adds = ((7,), ((1, (("answer", ("plus", ("v", 0), ("n", 1))),)), (0, (("call", 0, 0, (("n", 5),)), ("tell", ("v", 0))))))
    >>> again = (4, "around", (("get", None),), ("row", (("letters", (1, -4)), ("not", ("none",)))), ("same", ("v", 0), ("n", 0)), (("on", 0, (("n", 2),)), ("answer", ("v", 0))))
    >>> program_error(branch), asides_error(adds, (again,)), asides_error(branch, (again,))
    (None, None, None)
    >>> asides_error(branch, ((5, "before", (("get", 0),), ("any",), ("n", 1), ()),))
    (0, 'moments')
    >>> two = (2, "around", (("get", 0), ("put", None)), ("row", (("star", ("any",)), ("letters", (0,)))), ("n", 1), (("on", 0, ()), ("answer", ("v", 0))))
    >>> one = (5, "before", (("call", None), ("call", 0)), ("star", ("any",)), ("n", 1), (("rest",),))
    >>> asides_error(adds, (one, two)), asides_error(branch, (one, two))
    (None, (1, 'moments'))
    >>> program_error(((), ((0, (("tell", ("n", 1)), ("on", 0, ()))),)))
    ((0, 1), 'row')
"""


class Examples(unittest.TestCase):
    def test_errors(self):
        check_examples(self, ERRORS)

    def test_rows_and_letters(self):
        check_examples(self, ROWS_AND_LETTERS)

    def test_further_parts(self):
        check_examples(self, FURTHER)


if __name__ == "__main__":
    unittest.main()
