"""Programs, rows, expressions and wrong values that several tests take."""

REST = ("rest",)
ONE = ("n", 1)

# Values that are wrong wherever an integer, a tuple, a word or an expression is due.
NEVER = (None, True, False, "", "0", "n", "rest", [], [0], ["n", 1], {}, {0: 0}, {"n": 1}, -1, 10 ** 399, -(10 ** 399))

# Values that are no integers, whatever the bounds.
NO_INTEGERS = (None, True, False, "", "1", (), (1,), [], [1], {}, {1: 1}, ONE)

# Values that are no tuples.
NO_TUPLES = (None, True, False, 0, 7, "", "ab", [], [1, 2], {}, {0: 1})


def program_of(*bodies, cells=(5, -5), ahead=()):
    """A program whose functions are those of ahead, then one without parameters for each body."""
    return (cells, tuple(ahead) + tuple((0, rows) for rows in bodies))


# Cells 0 and 1; functions 0 to 3 with 0, 2, 8 and 0 parameters, and the main one, 4, behind them.
AHEAD = ((0, ()), (2, ()), (8, ()), (0, ()))
MAIN = len(AHEAD)


def wide(*rows):
    """A program with cells and functions of several parameters, and these rows in its main function."""
    return program_of(tuple(rows), ahead=AHEAD)


# One right row of each word, and some more, in wide.
RIGHT_ROWS = (
    ("set", 0, ONE),
    ("set", 7, ("v", 7)),
    ("ask", 0),
    ("ask", 7),
    ("get", 0, 0),
    ("get", 7, 1),
    ("put", 0, ONE),
    ("put", 1, ("plus", ONE, ONE)),
    ("call", 0, 0, ()),
    ("call", 7, 1, (ONE, ("v", 0))),
    ("call", 3, 2, (ONE,) * 8),
    ("call", 0, MAIN, ()),
    ("if", ONE, (), ()),
    ("if", ("v", 0), (REST, REST), (REST,)),
    ("try", (), (), 0, ()),
    ("try", (REST,), (0, 1, 9), 7, (REST, REST)),
    ("try", (), (0, 1, 2, 3, 4, 5, 6, 7, 8, 9), 0, ()),
    ("tell", ONE),
    ("answer", ONE),
    ("rest",),
    ("fault", 0),
    ("fault", 9),
)
RIGHT_ONS = (("on", 0, ()), ("on", 7, (ONE,) * 8), ("on", 3, (("v", 0), ("less", ONE, ONE))))

# Rows that are none in wide, each with one thing wrong.
WRONG_ROWS = (
    (),
    ("Rest",),
    ("rests",),
    ("",),
    ("n", 1),
    ("else",),
    ("end",),
    ("on",),
    ("set", 8, ONE),
    ("set", ONE, 0),
    ("ask", 8),
    ("get", 8, 0),
    ("get", 0, 2),
    ("put", 2, ONE),
    ("put", ONE, 0),
    ("call", 8, 0, ()),
    ("call", 0, 5, ()),
    ("call", 0, 0, (ONE,)),
    ("call", 0, 1, ()),
    ("call", 0, 1, (ONE,)),
    ("call", 0, 1, (ONE,) * 3),
    ("call", 0, 2, (ONE,) * 7),
    ("call", 0, 2, (ONE,) * 9),
    ("call", 0, 2, ONE),
    ("call", 0, 0, ONE),
    ("call", 0, 1, [ONE, ONE]),
    ("call", 0, 1, (ONE, ("v", 8))),
    ("if", ONE, ()),
    ("if", ONE, (), (), ()),
    ("if", ("n",), (), ()),
    ("try", (), (10,), 0, ()),
    ("try", (), (-1,), 0, ()),
    ("try", (), (1, 1), 0, ()),
    ("try", (), (2, 1), 0, ()),
    ("try", (), (0, 1, 3, 2), 0, ()),
    ("try", (), (1, True), 0, ()),
    ("try", (), (False, 1), 0, ()),
    ("try", (), (1, "2"), 0, ()),
    ("try", (), (1, None), 0, ()),
    ("try", (), ([1],), 0, ()),
    ("try", (), ((1, 2),), 0, ()),
    ("try", (), ({},), 0, ()),
    ("try", (), [1], 0, ()),
    ("try", (), 1, 0, ()),
    ("try", (), (), 8, ()),
    ("try", (), (), (), 0),
    ("fault", 10),
    ("fault", (1,)),
    ("answer", 1),
    ("tell", ()),
    (REST,),
    (["rest"],),
    ({"rest": 0},),
    ((),),
    (None,),
    (0,),
    (True,),
)


def nested(depth, op="plus", side=0):
    """An expression that is nested so deep, on the left (0), on the right (1) or on both sides (2)."""
    if depth == 1:
        return ("v", 7)
    inner = nested(depth - 1, op, side)
    return (op, inner if side != 1 else ONE, inner if side != 0 else ONE)


RIGHT_EXPRESSIONS = (
    ("n", 0),
    ("n", 10 ** 18),
    ("n", -(10 ** 18)),
    ("n", 10 ** 18 - 1),
    ("v", 0),
    ("v", 7),
    ("plus", ONE, ONE),
    ("less", ONE, ("v", 1)),
    ("times", ("v", 0), ONE),
    ("part", ONE, ("n", 0)),
    ("below", ONE, ("same", ONE, ONE)),
    ("same", ("part", ONE, ONE), ONE),
    nested(6),
    nested(6, "same", 1),
    nested(6, "times", 2),
    nested(5, "part", 2),
)

WRONG_EXPRESSIONS = (
    (),
    ("n",),
    ("v",),
    ("n", 1, 1),
    ("v", 0, 0),
    ("n", 10 ** 18 + 1),
    ("n", -(10 ** 18) - 1),
    ("n", 10 ** 399),
    ("n", True),
    ("n", False),
    ("n", None),
    ("n", "1"),
    ("n", ()),
    ("n", (1,)),
    ("n", [1]),
    ("n", {}),
    ("n", ONE),
    ("v", 8),
    ("v", -1),
    ("v", True),
    ("v", False),
    ("v", None),
    ("v", "0"),
    ("v", (0,)),
    ("v", [0]),
    ("v", ("v", 0)),
    ("N", 1),
    ("V", 1),
    ("nv", 1),
    ("", 1),
    (None, 1),
    (0, 1),
    (["n"], 1),
    (("n",), 1),
    ({"n": 1}, 1),
    ["n", 1],
    ["v", 0],
    {"n": 1},
    "n1",
    "v0",
    ("plus",),
    ("plus", ONE),
    ("plus", ONE, ONE, ONE),
    ("plus", 1, ONE),
    ("plus", ONE, 1),
    ("plus", ONE, ("v", 8)),
    ("plus", ("v", 8), ONE),
    ("plus", ONE, ()),
    ("plus", ONE, None),
    ("plus", [ONE, ONE]),
    ("plus", (ONE, ONE)),
    ["plus", ONE, ONE],
    ("plus", ["n", 1], ONE),
    ("plus", ONE, ["n", 1]),
    ("Plus", ONE, ONE),
    ("minus", ONE, ONE),
    ("div", ONE, ONE),
    ("and", ONE, ONE),
    ("n", ONE, ONE),
    (["plus"], ONE, ONE),
    ({"plus": 0}, ONE, ONE),
    (("plus",), ONE, ONE),
    (None, ONE, ONE),
    ("", ONE, ONE),
    ("same", ("same", ONE, ("same", ONE, ("n", 10 ** 18 + 1))), ONE),
    nested(7),
    nested(7, "below", 1),
    nested(7, "less", 2),
    nested(19, "same", 1),
    ("plus", nested(2), nested(6)),
    ("plus", nested(6), nested(2)),
)


def with_item(items, at, item):
    """The tuple with another item at a place."""
    return items[:at] + (item,) + items[at + 1:]


def within_rows(row, ways):
    """The row within others: the i-th of ways tells in which rows of which row the i-th one around it has it."""
    for which, word in reversed(ways):
        rows = ((), (row,)) if which else ((row,), ())
        row = ("if", ONE) + rows if word == "if" else ("try", rows[0], (1,), 0, rows[1])
    return row
