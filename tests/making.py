"""Makes programs, asides and pile parts for tests, out of seeds: the same ones each time."""

from asidewoven.programs import asides_error, program_error

WORDS = ("set", "get", "put", "call", "if", "try", "tell", "ask", "answer", "rest", "fault") + ("call", "tell", "get", "put")
# For programs in which bodies come behind one another, and few end early.
LIVELY = ("call",) * 6 + ("tell", "tell", "get", "put", "set", "if", "try", "ask", "answer", "rest")
NUMBERS = (0, 1, 2, -1, 3, 7, 10 ** 18, -(10 ** 18), 10 ** 9)


def is_part(value):
    aside = (0, "before", (("tell", None),), value, ("n", 1), ())
    return asides_error(((), ((0, ()),)), (aside,)) is None


class Making:
    """What is made hangs on the source (random.Random of a seed) and on what was made of it ahead of that."""

    def __init__(self, source, cells=2, parameters=(2, 1, 0), words=WORDS):
        self.source = source
        self.cells = cells
        self.parameters = parameters
        self.words = words

    def expression(self, depth=3):
        pick = self.source.random()
        if depth == 1 or pick < 0.3:
            return ("n", self.source.choice(NUMBERS[:6] if pick < 0.9 else NUMBERS))
        if pick < 0.6:
            return ("v", self.source.randrange(8 if pick < 0.4 else 3))
        word = self.source.choice(("plus", "less", "times", "part", "below", "same"))
        return (word, self.expression(depth - 1), self.expression(depth - 1))

    def rows(self, most, with_on=False, within=0, least=0):
        return tuple(self.row(with_on, within) for _ in range(self.source.randint(least, most)))

    def row(self, with_on, within):
        word = self.source.choice(self.words + (("on",) * 5 if with_on else ()))
        slot = self.source.randrange(4)
        if word in ("if", "try") and within == 3:
            word = "rest"
        if word in ("get", "put") and self.cells == 0:
            word = "tell"
        if word == "set":
            return (word, slot, self.expression())
        if word in ("tell", "answer"):
            return (word, self.expression())
        if word == "ask":
            return (word, slot)
        if word == "get":
            return (word, slot, self.source.randrange(self.cells))
        if word == "put":
            return (word, self.source.randrange(self.cells), self.expression())
        if word == "call":
            f = self.source.randrange(len(self.parameters))
            return (word, slot, f, tuple(self.expression(2) for _ in range(self.parameters[f])))
        if word == "if":
            return (word, self.expression(), self.rows(2, with_on, within + 1), self.rows(2, with_on, within + 1))
        if word == "try":
            kinds = tuple(kind for kind in range(6) if self.source.random() < 0.5)
            return (word, self.rows(3, with_on, within + 1), kinds, slot, self.rows(2, with_on, within + 1))
        if word == "fault":
            return (word, self.source.randrange(6))
        if word == "on":
            return (word, slot, tuple(self.expression(2) for _ in range(self.source.choice((0, 0, 1, 2, 3)))))
        return ("rest",)

    def program(self, least=0):
        """A program each of whose functions has so many rows at least."""
        numbers = tuple(self.source.choice(NUMBERS) for _ in range(self.cells))
        made = (numbers, tuple((many, self.rows(4, False, 0, least)) for many in self.parameters))
        assert program_error(made) is None, made
        return made

    def part(self, letters, most=8):
        """A pile part of at most so many parts, with these letters in it."""
        while True:
            made = self._part(letters, most, 5)
            if is_part(made):
                return made

    def _part(self, letters, most, depth):
        word = self.source.choice(("none", "any", "letters", "letters", "row", "row", "or", "and", "not", "star", "star"))
        if most < 2 or depth == 1:
            word = self.source.choice(("none", "any", "letters", "letters"))
        if word in ("none", "any"):
            return (word,)
        if word == "letters":
            return (word, tuple(self.source.choice(letters) for _ in range(self.source.randint(0, 3))))
        if word in ("not", "star"):
            return (word, self._part(letters, most - 1, depth - 1))
        many = self.source.randint(1, min(4, most - 1))
        return (word, tuple(self._part(letters, (most - 1) // many, depth - 1) for _ in range(many)))

    def telling_part(self, letters):
        """A pile part that has some of the piles that runs come to, and often not all."""
        every, some = ("star", ("any",)), ("letters", tuple(self.source.sample(letters, self.source.randint(1, 2))))
        made = self.source.choice((
            ("row", (every, some, every)), ("row", (every, some)), ("row", (every, some, ("any",))), ("star", ("any",)),
            ("star", ("row", (("any",), ("any",)))), ("row", (("any",), some, every)), ("row", (every, some, ("star", some))),
            ("row", (("star", ("row", (("any",), ("any",), ("any",)))), some)), some,
        ))
        return ("not", made) if self.source.random() < 0.3 else made

    def moment(self):
        kind = self.source.choice(("call", "call", "get", "put", "tell", "ask") if self.cells else ("call", "tell", "ask"))
        if kind in ("tell", "ask"):
            return (kind, None)
        number = self.source.randrange(len(self.parameters) if kind == "call" else self.cells)
        return (kind, number if self.source.random() < 0.7 else None)

    def asides(self, program, many, telling=False):
        """So many asides; telling is whether their parts are telling ones."""
        names = self.source.sample(range(8), many)
        letters = tuple(range(len(self.parameters))) + tuple(-1 - name for name in names)
        made = tuple(self.aside(name, letters, telling) for name in names)
        assert asides_error(program, made) is None, made
        return made

    def aside(self, name, letters, telling):
        form = self.source.choice(("before", "behind", "around"))
        moments = tuple(self.moment() for _ in range(self.source.randint(1, 3)))
        everywhere = ("star", ("any",))
        if telling:
            part = self.telling_part(letters)
        else:
            part = everywhere if self.source.random() < 0.4 else self.part(letters)
        test = self.expression() if self.source.random() < 0.5 else ("n", self.source.choice((0, 1, 1, 1, 2)))
        return (name, form, moments, part, test, self.rows(3, form == "around"))
