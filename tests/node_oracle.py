"""Nodes once more, by going over all rules again and again until nothing new follows, to compare the package with."""

from asidewoven.piles import pile_machine
from asidewoven.programs import body_at, letters_of

KINDS = ("get", "put", "call", "tell", "ask")


def expressions_of(row):
    return {
        "set": lambda: [row[2]], "put": lambda: [row[2]], "call": lambda: list(row[3]), "if": lambda: [row[1]],
        "tell": lambda: [row[1]], "answer": lambda: [row[1]], "on": lambda: list(row[2]),
    }.get(row[0], list)()


def words_in(expression):
    if expression[0] in ("n", "v"):
        return set()
    return {expression[0]} | words_in(expression[1]) | words_in(expression[2])


def row_kinds(row):
    words = set().union(*[words_in(expression) for expression in expressions_of(row)])
    return ({0} if words & {"plus", "less", "times"} else set()) | ({1} if "part" in words else set())


class NodeOracle:
    def __init__(self, program, asides, begins):
        self.program, self.asides = program, asides
        self.letters = letters_of(program, asides)
        self.machines = [pile_machine(aside[3], self.letters) for aside in asides]
        main = len(program[1]) - 1
        self.open = {self.at(pile) for pile in begins}
        self.first = [self.at((main,))] + [self.at(pile) for pile in begins]
        self.begin_with(self.first)

    def begin_with(self, first):
        """Goes over all nodes until neither they nor what is known of them grows."""
        self.found = {node: (False, False, frozenset()) for node in first}
        self.runnable, self.rows, self.opens = {}, {}, {}
        while True:
            before = dict(self.found)
            for node in list(self.found):
                self.visit(node)
            if self.found == before:
                return

    def then(self, states, letter):
        return tuple(rows[state][self.letters.index(letter)] for (rows, _), state in zip(self.machines, states))

    def at(self, pile):
        states = (0,) * len(self.asides)
        for letter in pile:
            states = self.then(states, letter)
        return (pile[-1], states, None, ())

    def known(self, node):
        return self.found.get(node, (False, False, frozenset()))

    def visit(self, node):
        self.node, self.place_rows, self.places, self.answered = node, {}, [], False
        ended, kinds = self.do(body_at(self.program, self.asides, node[0]), ())
        self.found[node] = (self.answered, ended, frozenset(kinds))
        self.runnable[node], self.rows[node] = tuple(sorted(self.places)), self.place_rows
        opened = []
        for links, deed, _, _ in self.place_rows.values():
            opened += [linked for _, linked in links] + ([deed[2]] if deed and deed[2] else [])
        self.opens[node] = set(opened)
        for further in opened:
            self.found.setdefault(further, (False, False, frozenset()))

    def do(self, rows, ahead):
        everything = self.node in self.open
        kinds, reached = set(), True
        for number, row in enumerate(rows):
            if not reached and not everything:
                return False, kinds
            place = ahead + (number,)
            self.places.append(place)
            reached, more = self.row(row, place, everything)
            kinds |= row_kinds(row) | more
        return reached, kinds

    def row(self, row, place, everything):
        word = row[0]
        if word in ("set", "rest"):
            return True, set()
        if word == "fault":
            return False, {row[1]}
        if word == "answer":
            self.answered = True
            return False, set()
        if word == "if":
            test = row[1]
            ends, kinds = [], set()
            if everything or test != ("n", 0):
                end, more = self.do(row[2], place + (0,))
                ends, kinds = ends + [end], kinds | more
            if everything or test[0] != "n" or test[1] == 0:
                end, more = self.do(row[3], place + (1,))
                ends, kinds = ends + [end], kinds | more
            return any(ends), kinds
        if word == "try":
            end, kinds = self.do(row[1], place + (0,))
            last, more = False, set()
            if everything or kinds & set(row[2]):
                last, more = self.do(row[4], place + (1,))
            return end or last, (kinds - set(row[2])) | more
        states = self.node[1]
        if word == "on":
            told = self.told(states, self.node[2], self.node[3])
        else:
            number = row[2] if word in ("get", "call") else row[1] if word == "put" else None
            rest = tuple(
                at for at, aside in enumerate(self.asides)
                if ((word, number) in aside[2] or (word, None) in aside[2]) and self.machines[at][1][states[at]]
            )
            told = self.told(states, (word, number), rest)
        self.place_rows[place] = told
        return told[2], told[3]

    def told(self, states, moment, rest):
        """The quadruple (links, deed, can answer, kinds) of a rest."""
        if not rest:
            kind, number = moment
            if kind == "call":
                node = (number, self.then(states, number), None, ())
                answered, ended, kinds = self.known(node)
                return [], (kind, number, node), answered or ended, {3} | kinds
            return [], (kind, number, None), True, {2} if kind == "ask" else set()
        others = self.told(states, moment, rest[1:])
        name, form, _, _, test, _ = self.asides[rest[0]]
        if test == ("n", 0):
            return others
        passes = test[0] != "n"
        states = self.then(states, -1 - name)
        node = (-1 - name, states, moment, rest[1:]) if form == "around" else (-1 - name, states, None, ())
        answered, ended, kinds = self.known(node)
        link, kinds = [(rest[0], node)], {3} | kinds
        if form == "before":
            if answered or ended or passes:
                return link + others[0], others[1], others[2], kinds | others[3]
            return link, None, False, kinds
        if form == "behind":
            if ended or passes:
                return link + others[0], others[1], answered or others[2], kinds | others[3]
            return link + others[0], others[1], answered, kinds
        if passes:
            return link + others[0], others[1], answered or ended or others[2], kinds | others[3]
        return link, None, answered or ended, kinds

    def chains(self, node):
        found = []

        def go(rows, ahead):
            for number, row in enumerate(rows):
                place = ahead + (number,)
                if row[0] in KINDS + ("on",):
                    links, deed, _, _ = self.rows[node].get(place, ([], None, False, set()))
                    found.append((place, tuple(links), deed))
                if row[0] in ("if", "try"):
                    go(row[2] if row[0] == "if" else row[1], place + (0,))
                    go(row[3] if row[0] == "if" else row[4], place + (1,))

        go(body_at(self.program, self.asides, node[0]), ())
        return tuple(found)

    def way_lengths(self):
        """For each node come to how many nodes a shortest way to it has."""
        lengths = {node: 1 for node in self.first}
        for many in range(1, len(self.found) + 1):
            for node in [one for one in lengths if lengths[one] == many]:
                for further in self.opens[node]:
                    lengths.setdefault(further, many + 1)
        return lengths
