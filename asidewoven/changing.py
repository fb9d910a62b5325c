"""Runs amid which the program and its asides are exchanged ([J1])."""

from asidewoven.bodies import Behind
from asidewoven.grounds import PileGround
from asidewoven.looms import Loom
from asidewoven.numbers import Run
from asidewoven.woven_grounds import WovenGround


class PileGrounds:
    """Makes grounds of programs with asides that are found by the pile."""

    def ground_of(self, program, asides, begins):
        return PileGround(program, asides)


class WovenGrounds:
    """Makes grounds of weavings; many has the number of copies of each one made."""

    def __init__(self):
        self.many = []

    def ground_of(self, program, asides, begins):
        loom = Loom(program, asides, begins)
        self.many.append(len(loom.chart))
        return HandedGround(loom)


class HandedGround(WovenGround):
    """The ground of a weaving to which bodies can be handed over at its begins."""

    def __init__(self, loom):
        super().__init__(loom.weaving)
        self.loom = loom

    def body_on(self, pile):
        """The body of the function on top of a pile."""
        return self._body(self.loom.copy_at(pile))


class ChangingRun(Run):
    """A run with changes; grounds makes the ground of the program and the asides, and that of each change."""

    def __init__(self, grounds, start, changes, inputs, steps):
        program, asides = start
        super().__init__(grounds.ground_of(program, asides, ()), inputs, steps)
        self.grounds = grounds
        _, self.functions = program
        self.changes = changes
        self.changed = 0
        self.unlike = self._unlike_functions()

    def row_begun(self, body, row):
        super().row_begun(body, row)
        if row[0] == "rest" and self.changed < len(self.changes) and self._may_change():
            self._change()

    def _unlike_functions(self):
        """The functions whose rows the next change has otherwise, as keys."""
        if self.changed == len(self.changes):
            return {}
        (_, further), _ = self.changes[self.changed]
        return {f: True for f, rows in enumerate(self.functions) if rows != further[f]}

    def _may_change(self):
        """Whether the next change can be done here."""
        if not all([body.letter >= 0 and body.letter not in self.unlike for body in self.bodies]):
            return False
        return not any([isinstance(item, Behind) and self._comes(item.rest.links[0]) for item in self.stack])

    def _comes(self, link):
        """Whether the body of an aside, once its link is come to, could be opened."""
        return self.ground.test(link) != ("n", 0)

    def _change(self):
        program, asides = self.changes[self.changed]
        pile = self.top_pile()
        begins = tuple([pile[:many + 1] for many in range(len(pile))])
        self.ground = self.grounds.ground_of(program, asides, begins)
        _, self.functions = program
        self.changed += 1
        self.unlike = self._unlike_functions()
        # All that waits but bodies are behind asides with the test ("n", 0): they would do nothing, and their links
        # are those of the asides so far.
        self.stack = list(self.bodies)
        for body in self.bodies:
            _, rows, spot = self.ground.body_on(body.pile)
            body.go_over(rows, spot)
