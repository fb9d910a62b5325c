"""Looms: each makes the weaving of a program with its asides ([G3])."""

from asidewoven.chained import chain_told, with_chains
from asidewoven.lots import lots_of, parts_of
from asidewoven.programs import body_at
from asidewoven.spread import spread_of


class Loom:
    """The classes of the nodes of a program with asides, for begins; each one becomes a copy."""

    def __init__(self, program, asides, begins):
        self.spread = spread_of(program, asides, begins)
        self.lots = lots_of(self.spread)
        self.chart = parts_of(self.spread, self.lots)
        self.weaving = self._woven(program, asides)

    def copy_at(self, pile):
        """The copy for the node of the function on top of a pile, the main one's or one of begins."""
        return self.lots[self.spread.forms.node_at(pile)]

    def _woven(self, program, asides):
        cells, functions = program
        copies = tuple([self._copy(program, asides, part[0]) for part in self.chart])
        return cells, tests_of(asides), copies, self.copy_at((len(functions) - 1,))

    def _copy(self, program, asides, node):
        chains = {place: chain_told(links, deed, self.lots) for place, links, deed in self.spread.chains(node)}
        return node[0], with_chains(body_at(program, asides, node[0]), chains)


def tests_of(asides):
    """The pairs (form, test) of asides, in their order."""
    return tuple([(aside[1], aside[4]) for aside in asides])
