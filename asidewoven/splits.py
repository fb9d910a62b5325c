"""Turnings that make two copies of one ([I2], [I3])."""

from asidewoven.chained import chains_in, copies_named, with_chains, without_chains
from asidewoven.spread import spread_of


class Split:
    """The split of a copy: a new copy behind all others gets some of its nodes.

    source are the program, its asides and begins; error is what is wrong with the split, None if nothing is.
    """

    def __init__(self, source, woven, chart, copy, some):
        self.cells, self.tests, copies, self.first_copy = woven
        self.old = copy
        self.new = len(copies)
        self.some = {node: True for node in some}
        others = tuple([node for node in chart[copy] if node not in self.some])
        self.chart = chart[:copy] + (others,) + chart[copy + 1:] + (some,)
        self.spread = spread_of(*source)
        self.error = None
        self.made = []
        for place, (letter, rows) in enumerate(copies + (copies[copy],)):
            self.made.append((letter, self._looked_at(place, rows)))

    def result(self):
        """The weaving and the chart behind the split."""
        first = self.first_copy
        if first == self.old and self.spread.forms.first_node() in self.some:
            first = self.new
        return (self.cells, self.tests, tuple(self.made), first), self.chart

    def _looked_at(self, copy, rows):
        """The rows of a copy, with the new copy named where the nodes are its."""
        named = chains_in(rows)
        if not any([self.old in copies_named(chain) for _, chain in named]):
            return rows
        told = []
        for node in self.chart[copy]:
            self.spread.also_from(node)
            told.append(self.spread.chains(node))
        chains = {}
        for number, (place, chain) in enumerate(named):
            chains[place] = self._named_anew(chain, [chains_of_one[number] for chains_of_one in told], (copy, place))
        return with_chains(without_chains(rows), chains)

    def _named_anew(self, chain, told, where):
        """The chain of the row there; told is what the chains of the copy's nodes tell of it."""
        links, deed = chain
        made = []
        for number, (place, copy) in enumerate(links):
            nodes = [links_of_one[number][1] for _, links_of_one, _ in told] if copy == self.old else []
            made.append((place, self._copy_for(nodes, copy, where)))
        if deed is not None and deed[2] == self.old:
            deed = deed[:2] + (self._copy_for([deed_of_one[2] for _, _, deed_of_one in told], self.old, where),)
        return tuple(made), deed

    def _copy_for(self, nodes, copy, where):
        """The new copy if all nodes are among its, otherwise the copy that was named."""
        new = [node in self.some for node in nodes]
        if not any(new):
            return copy
        if all(new):
            return self.new
        if self.error is None:
            self.error = ("mixed",) + where
        return copy
