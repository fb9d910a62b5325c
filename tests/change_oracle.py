"""Runs with changes once more, straight from the document's words, to compare the package with."""

from oracle import Oracle


class ChangeOracle(Oracle):
    def __init__(self, program, asides, changes, inputs, steps):
        self.changes, self.changed, self.coming = list(changes), 0, []
        # The piles at which changes were done.
        self.piles = []
        super().__init__(program, asides, inputs, steps)

    def row(self, row, slots, around):
        if row == ("rest",) and self.changes and self.may_change():
            program, self.asides = self.changes.pop(0)
            self.functions = program[1]
            self.changed += 1
            self.piles.append(self.pile)
        super().row(row, slots, around)

    def may_change(self):
        further = self.changes[0][0][1]
        if any(letter < 0 or self.functions[letter][1] != further[letter][1] for letter in self.pile):
            return False
        return all(test == ("n", 0) for test in self.coming)

    def rest(self, kind, number, places, values):
        """As in any run; coming has the tests of the behind asides that are still to come."""
        behind = [self.asides[place][4] for place in places if self.asides[place][1] == "behind"]
        since = len(self.coming)
        self.coming += behind
        try:
            return super().rest(kind, number, places, values)
        finally:
            del self.coming[since:]

    def told(self):
        return (tuple(self.events), self.end, self.done, self.changed)
