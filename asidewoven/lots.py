"""Nodes that are alike: the coarsest parting of the nodes come to ([F4])."""


def lots_of(spread):
    """The number of the class of each node come to; the classes are numbered by their least nodes."""
    nodes = spread.nodes()
    chains = {node: spread.chains(node) for node in nodes}
    opened = {node: spread.opened_by_kinds(node) for node in nodes}
    lots = _numbered({node: (node[0], exchanged(chains[node], {})) for node in nodes})
    known = 0
    # Classes are only ever cut, where the chains of their nodes lead to several ones.
    while len(set(list(lots.values()))) != known:
        known = len(set(list(lots.values())))
        lots = _numbered({node: (lots[node],) + tuple([lots[further] for further in opened[node]]) for node in nodes})
    return lots


def parts_of(spread, lots):
    """The classes of the nodes come to, each an ascending tuple, ordered by their least nodes."""
    found = {}
    for node in spread.nodes():
        found.setdefault(lots[node], []).append(node)
    return tuple([tuple(members) for members in list(found.values())])


def exchanged(chains, lots):
    """Chains with each node exchanged for its number in lots, or for None if it has none there."""
    return tuple([
        (
            place,
            tuple([(aside, lots.get(node)) for aside, node in links]),
            None if deed is None else (deed[0], deed[1], None if deed[2] is None else (lots.get(deed[2]),)),
        )
        for place, links, deed in chains
    ])


def _numbered(marks):
    """For each node the number of what it is marked with, in the order in which marks first come."""
    numbers = {}
    lots = {}
    for node in marks:
        lots[node] = numbers.setdefault(marks[node], len(numbers))
    return lots
