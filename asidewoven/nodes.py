"""Nodes: what is come to, what can come of it, and the ways there ([E4] to [E8])."""

from asidewoven.errors import NoNode
from asidewoven.node_forms import NodeForms
from asidewoven.plans import kinds_in
from asidewoven.spread import spread_from, spread_of


def nodes(program, asides, begins):
    """The nodes come to, ascending."""
    return tuple(spread_of(program, asides, begins).nodes())


def ends(program, asides, begins):
    """For each node come to whether it can answer, whether it can end, and the kinds that can come out of it."""
    spread = spread_of(program, asides, begins)
    found = []
    for node in spread.nodes():
        answered, ended, kinds = spread.facts[node]
        found.append((node, answered, ended, kinds_in(kinds)))
    return tuple(found)


def runnable(program, asides, begins, node):
    """The places of the runnable rows of a node, whether it is come to or not."""
    return tuple(_spread_at(program, asides, begins, node).visits[node].runnable)


def chains(program, asides, begins, node):
    """The links and the deed at each row with a moment of a node, whether it is come to or not."""
    return _spread_at(program, asides, begins, node).chains(node)


def all_chains(program, asides, begins):
    """The pairs (node, chains) of all nodes come to."""
    spread = spread_of(program, asides, begins)
    return tuple([(node, spread.chains(node)) for node in spread.nodes()])


def way_to(program, asides, begins, node):
    """A shortest way to a node come to."""
    spread = spread_of(program, asides, begins)
    way = _shortest_way(spread, node)
    if way is None:
        raise NoNode(node)
    return way


def way_holds(program, asides, begins, node, value):
    """Whether value is a shortest way to the node."""
    spread = spread_of(program, asides, begins)
    way = _shortest_way(spread, node)
    if way is None or not isinstance(value, tuple) or len(value) != len(way):
        return False
    if not all([spread.is_come_to(item) for item in value]):
        return False
    opened = [further in spread.opened_by(one) for one, further in zip(value, value[1:])]
    return value[0] in spread.first and value[-1] == node and all(opened)


def meeting(program, asides, a, b):
    """The first node and place of a row at which both asides take part."""
    spread = spread_of(program, asides, ())
    for node in spread.nodes():
        for plan in spread.forms.moment_plans[node[0]]:
            if plan.word != "on" and plan.place in spread.visits[node].tellings:
                places = _taking_part(spread, node, plan.place)
                if a in places and b in places:
                    return node, plan.place
    return None


def dead(program, asides):
    """The places of the asides of whose letter there is no node."""
    spread = spread_of(program, asides, ())
    come_to = {node[0]: True for node in spread.nodes()}
    places = spread.forms.places
    return tuple(sorted([places[letter] for letter in places if letter not in come_to]))


def ringing(program, asides):
    """Nodes of asides of which each opens the one behind it, and the last one the first; None if there are none."""
    spread = spread_of(program, asides, ())
    opened = {node: [further for further in spread.opened_by(node) if further[0] < 0] for node in spread.nodes()}
    staying = _without_ends({node: opened[node] for node in opened if node[0] < 0})
    if len(staying) == 0:
        return None
    # Each node that stays opens one that does, so that going on and on comes back to one.
    way = [sorted(list(staying))[0]]
    while True:
        further = [node for node in staying[way[-1]] if node in staying][0]
        if further in way:
            return tuple(way[way.index(further):])
        way.append(further)


def _spread_at(program, asides, begins, node):
    """The spread from a node; NoNode is raised if it is none by its form."""
    forms = NodeForms(program, asides)
    if not forms.is_node(node):
        raise NoNode(node)
    return spread_from(forms, begins, node)


def _shortest_way(spread, value):
    """A shortest way to value, None if it is no node come to."""
    if not spread.is_come_to(value):
        return None
    ahead = {node: None for node in spread.first}
    come_to = list(ahead)
    at = 0
    while at < len(come_to):
        for further in spread.opened_by(come_to[at]):
            if further not in ahead:
                ahead[further] = come_to[at]
                come_to.append(further)
        at += 1
    way = [value]
    while ahead[way[-1]] is not None:
        way.append(ahead[way[-1]])
    return tuple(way[::-1])


def _taking_part(spread, node, place):
    """The places of the asides that take part in the moment at a row of a node, as keys of a dict."""
    places = {}
    waiting = list(spread.visits[node].tellings[place].links)
    seen = {}
    while len(waiting) > 0:
        aside, linked = waiting.pop()
        places[aside] = True
        if linked[2] is not None and linked not in seen:
            seen[linked] = True
            tellings = spread.visits[linked].tellings
            for plan in spread.forms.moment_plans[linked[0]]:
                if plan.word == "on" and plan.place in tellings:
                    waiting.extend(tellings[plan.place].links)
    return places


def _without_ends(opened):
    """What is left if nodes that open none of those left are taken away, again and again."""
    users = {node: [] for node in opened}
    for node in opened:
        for further in opened[node]:
            users[further].append(node)
    many = {node: len(opened[node]) for node in opened}
    waiting = [node for node in opened if many[node] == 0]
    taken = {}
    while len(waiting) > 0:
        node = waiting.pop()
        taken[node] = True
        for user in users[node]:
            many[user] -= 1
            if many[user] == 0:
                waiting.append(user)
    return {node: opened[node] for node in opened if node not in taken}
