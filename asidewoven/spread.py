"""Which nodes are come to, which of their rows are runnable, and what can come of them ([E2] to [E4])."""

from asidewoven.bounds import MAX_NODES
from asidewoven.errors import TooMany
from asidewoven.node_forms import NodeForms

# What is known of a node at first: it can neither answer nor end, and no kind of fault can come out of it.
NOTHING = (False, False, 0)
INPUT_FAULT = 1 << 2
PILE_FAULT = 1 << 3


class Told:
    """What a row tells of its moment: its links, its deed, whether it can answer, and the kinds of faults."""

    def __init__(self, links, deed, answers, kinds):
        self.links = links
        self.deed = deed
        self.answers = answers
        self.kinds = kinds

    def opened(self):
        """The nodes that the row opens."""
        found = [node for _, node in self.links]
        if self.deed is not None and self.deed[2] is not None:
            found.append(self.deed[2])
        return found


class Visit:
    """What follows for one node from what is known of those that it opens."""

    def __init__(self, forms, facts, node, is_open):
        self.forms = forms
        self.facts = facts
        letter, self.states, self.moment, self.rest = node
        self.is_open = is_open
        self.runnable = []
        self.tellings = {}
        self.known = {}
        self.answered = False
        self.ended, self.kinds = self._do_rows(forms.plans[letter])

    def opened(self):
        """The nodes that the runnable rows open, each once."""
        found = {}
        for telling in list(self.tellings.values()):
            for node in telling.opened():
                found[node] = True
        return list(found)

    def _do_rows(self, plans):
        """Whether rows that begin can end, and the kinds that can come out of them."""
        ends, kinds = True, 0
        for plan in plans:
            if not ends and not self.is_open:
                return False, kinds
            self.runnable.append(plan.place)
            ends, more = self._do_row(plan)
            kinds = kinds | plan.mask | more
        return ends, kinds

    def _do_row(self, plan):
        """Whether a runnable row can go on, and the kinds that can come out of it but for its own expressions."""
        if plan.word in ("set", "rest"):
            return True, 0
        if plan.word == "answer":
            self.answered = True
            return False, 0
        if plan.word == "fault":
            return False, 1 << plan.item[1]
        if plan.word == "if":
            return self._do_if(plan)
        if plan.word == "try":
            return self._do_try(plan)
        telling = self._told_at(plan)
        self.tellings[plan.place] = telling
        return telling.answers, telling.kinds

    def _do_if(self, plan):
        goes_on, kinds = False, 0
        for begins, plans in ((plan.begins_first, plan.first), (plan.begins_second, plan.second)):
            if begins or self.is_open:
                ends, more = self._do_rows(plans)
                goes_on = goes_on or ends
                kinds = kinds | more
        return goes_on, kinds

    def _do_try(self, plan):
        goes_on, kinds = self._do_rows(plan.first)
        caught = kinds & plan.caught
        kinds = kinds - caught
        if caught != 0 or self.is_open:
            ends, more = self._do_rows(plan.second)
            goes_on = goes_on or ends
            kinds = kinds | more
        return goes_on, kinds

    def _told_at(self, plan):
        # All rows of one kind and number are told the same of; so are all rows on.
        key = (plan.word, plan.number)
        if key not in self.known:
            moment, rest = self.moment, self.rest
            if plan.word != "on":
                moment, rest = key, self.forms.fitting(self.states, plan.word, plan.number)
            self.known[key] = told_of(self.forms, self.facts, self.states, moment, rest)
        return self.known[key]


class Spread:
    """All nodes that are come to from the first ones, with what follows for them.

    In an open node all rows are runnable from the outset. What is known of nodes only ever grows; each node is visited
    again as long as more becomes known of one that it opens. TooMany is raised if more than MAX_NODES are come to.
    """

    def __init__(self, forms, first, open_nodes):
        self.forms = forms
        self.first = first
        self.open_nodes = open_nodes
        self.facts = {}
        self.visits = {}
        self.users = {}
        self.waiting = []
        self.queued = {}
        self.most = MAX_NODES
        self._spread_from(first)

    def also_from(self, node):
        """Comes to one node more, and to all that come of it; TooMany is raised if these are more than MAX_NODES."""
        if node in self.facts:
            return
        # What is known of the nodes so far stays, as none of them opens a new one.
        self.most = len(self.facts) + MAX_NODES
        self._spread_from([node])
        if len(self.facts) > MAX_NODES and self._many_from(node) > MAX_NODES:
            raise TooMany(MAX_NODES)

    def nodes(self):
        """The nodes come to, ascending."""
        return sorted(list(self.facts))

    def is_come_to(self, value):
        # Only what is a node by its form is sure to be able to stand as a key.
        return self.forms.is_node(value) and value in self.facts

    def opened_by(self, node):
        """The nodes that a node opens."""
        return self.visits[node].opened()

    def opened_by_kinds(self, node):
        """The nodes that a node opens, in order, for each kind and number of its rows once."""
        found = []
        for telling in list(self.visits[node].known.values()):
            found.extend(telling.opened())
        return found

    def chains(self, node):
        """A triple (place, links, deed) for each row of a node's body that has a moment."""
        tellings = self.visits[node].tellings
        found = []
        for plan in self.forms.moment_plans[node[0]]:
            if plan.place in tellings:
                found.append((plan.place, tellings[plan.place].links, tellings[plan.place].deed))
            else:
                found.append((plan.place, (), None))
        return tuple(found)

    def _spread_from(self, first):
        for node in first:
            self._come_to(node)
        at = 0
        while at < len(self.waiting):
            self.queued[self.waiting[at]] = False
            self._visit(self.waiting[at])
            at += 1
        self.waiting = []

    def _many_from(self, node):
        """How many nodes are come to from one node, itself too."""
        seen = {node: True}
        waiting = [node]
        while len(waiting) > 0:
            for further in self.opened_by(waiting.pop()):
                if further not in seen:
                    seen[further] = True
                    waiting.append(further)
        return len(seen)

    def _come_to(self, node):
        if node not in self.facts:
            if len(self.facts) == self.most:
                raise TooMany(MAX_NODES)
            self.facts[node] = NOTHING
            self.users[node] = {}
            self._queue(node)

    def _queue(self, node):
        if not self.queued.get(node, False):
            self.queued[node] = True
            self.waiting.append(node)

    def _visit(self, node):
        visit = Visit(self.forms, self.facts, node, node in self.open_nodes)
        self.visits[node] = visit
        for further in visit.opened():
            self._come_to(further)
            self.users[further][node] = True
        fact = (visit.answered, visit.ended, visit.kinds)
        if fact != self.facts[node]:
            self.facts[node] = fact
            for user in list(self.users[node]):
                self._queue(user)


def told_of(forms, facts, states, moment, rest):
    """What a row of a body in these states tells of a moment, a pair, with this rest."""
    told = _told_of_deed(forms, facts, states, moment)
    for at in reversed(range(len(rest))):
        _, form, _, _, test, _ = forms.listed[rest[at]]
        if test != ("n", 0):
            node = forms.linked(states, moment, rest[at:])
            told = _with_link(told, form, test[0] != "n", (rest[at], node), facts.get(node, NOTHING))
    return told


def _told_of_deed(forms, facts, states, moment):
    kind, number = moment
    if kind == "call":
        node = forms.called(states, number)
        answered, ended, kinds = facts.get(node, NOTHING)
        return Told((), (kind, number, node), answered or ended, kinds | PILE_FAULT)
    return Told((), (kind, number, None), True, INPUT_FAULT if kind == "ask" else 0)


def _with_link(others, form, can_pass, link, fact):
    """What is told of a link and the others behind it; fact is what is known of the link's node."""
    answered, ended, kinds = fact
    kinds = kinds | PILE_FAULT
    links = (link,) + others.links
    if form == "behind":
        if ended or can_pass:
            return Told(links, others.deed, answered or others.answers, kinds | others.kinds)
        return Told(links, others.deed, answered, kinds)
    goes_on = answered or ended or can_pass if form == "before" else can_pass
    # A before body that answers or ends goes on with the others; an around body that does answers in their place.
    answers = form == "around" and (answered or ended)
    if goes_on:
        return Told(links, others.deed, answers or others.answers, kinds | others.kinds)
    return Told((link,), None, answers, kinds)


def spread_of(program, asides, begins):
    """The spread of all nodes come to for begins."""
    forms = NodeForms(program, asides)
    begun = [forms.node_at(pile) for pile in begins]
    return Spread(forms, [forms.first_node()] + begun, _marked(begun))


def spread_from(forms, begins, node):
    """The spread of all nodes come to from one node, for begins."""
    return Spread(forms, [node], _marked([forms.node_at(pile) for pile in begins]))


def _marked(nodes):
    return {node: True for node in nodes}
