"""Free runs of two bodies side by side: how few choices lead where ([F5]).

Two bodies of one letter get the same choices. As long as their notes are the same both are at the same row; a *race*
tells for all that can come of it the fewest choices, from the beginning of the bodies on: the outcomes of both, the
pairs of bodies that they open, and notes that are unlike. The race of a body with itself is a free run of it.

Fewest choices are a pair (how many, trail), None where there are none or too many. A trail is None, one choice, or a
pair of trails, so that a longer one is made without a copy.
"""

from asidewoven.bounds import MAX_CHOICES


class Side:
    """One side of a moment in a race: the states of the body, the moment, and the rest to be run."""

    def __init__(self, forms, states, moment, rest):
        self.forms = forms
        self.states = states
        self.moment = moment
        # Asides that are never opened have no note.
        self.rest = rest
        while len(self.rest) > 0 and self.first_aside()[4] == ("n", 0):
            self.rest = self.rest[1:]

    def first_aside(self):
        return self.forms.listed[self.rest[0]]

    def others(self):
        return Side(self.forms, self.states, self.moment, self.rest[1:])

    def linked_node(self):
        return self.forms.linked(self.states, self.moment, self.rest)

    def called_node(self):
        return self.forms.called(self.states, self.moment[1])


class Race:
    """The race of two nodes of one letter, by what is known of the races of those that they open.

    outcomes are told by "answer", "end", or the kind of a fault. lots has the class of each node.
    """

    def __init__(self, forms, lots, pair, known):
        self.forms = forms
        self.lots = lots
        self.pair = pair
        self.known = known
        self.outcomes = {}
        self.openings = {}
        self.unlike = None
        end = self._race_rows(forms.plans[pair[0][0]], (0, None), self.outcomes)
        _keep(self.outcomes, "end", end)

    def _race_rows(self, plans, way, faults):
        """The way to the end of the rows, from the way to their beginning; their faults are added to faults."""
        for plan in plans:
            if way is None:
                return None
            way = self._race_row(plan, way, faults)
        return way

    def _race_row(self, plan, way, faults):
        if len(plan.faults) > 0:
            for at, kind in enumerate(plan.faults):
                _keep(faults, kind, longer(way, at + 1))
            way = longer(way, 0)
        if way is None or plan.word in ("set", "rest"):
            return way
        if plan.word == "answer":
            _keep(self.outcomes, "answer", way)
            return None
        if plan.word == "fault":
            _keep(faults, plan.item[1], way)
            return None
        if plan.word == "if":
            return self._race_if(plan, way, faults)
        if plan.word == "try":
            return self._race_try(plan, way, faults)
        found = self._run_rest(way, self._side(plan, self.pair[0]), self._side(plan, self.pair[1]))
        for outcome in found:
            if outcome != "answer":
                _keep(faults, outcome, found[outcome])
        return found.get("answer")

    def _race_if(self, plan, way, faults):
        if plan.item[1][0] == "n":
            return self._race_rows(plan.first if plan.begins_first else plan.second, way, faults)
        first = self._race_rows(plan.first, longer(way, 1), faults)
        return shorter(first, self._race_rows(plan.second, longer(way, 0), faults))

    def _race_try(self, plan, way, faults):
        own = {}
        end = self._race_rows(plan.first, way, own)
        caught = None
        for kind in own:
            if kind in plan.item[2]:
                caught = shorter(caught, own[kind])
            else:
                _keep(faults, kind, own[kind])
        return shorter(end, self._race_rows(plan.second, caught, faults))

    def _side(self, plan, node):
        _, states, moment, rest = node
        if plan.word == "on":
            return Side(self.forms, states, moment, rest)
        rest = self.forms.fitting(states, plan.word, plan.number)
        return Side(self.forms, states, (plan.word, plan.number), rest)

    def _run_rest(self, way, one, other):
        """The outcomes of both rests, "answer" or kinds, if they are run from this way on."""
        if way is None:
            return {}
        if one.rest[:1] == other.rest[:1]:
            return self._race_deed(way, one, other) if len(one.rest) == 0 else self._run_link(way, one, other)
        if len(one.rest) == 0 or (len(other.rest) > 0 and other.rest[0] < one.rest[0]):
            one, other = other, one
        # The first aside of one is not in the rest of other: what it notes first is noted by one alone.
        if one.first_aside()[1] != "behind":
            self._differ(way)
            return {}
        found = self._run_rest(way, one.others(), other)
        for outcome in found:
            self._differ(found[outcome])
        return {}

    def _differ(self, way):
        self.unlike = shorter(self.unlike, way)

    def _run_link(self, way, one, other):
        form = one.first_aside()[1]
        if form == "behind":
            return self._run_behind(way, one, other)
        opens, passes = self._test(way, one)
        found = {}
        ended = self._begin(opens, one.linked_node(), other.linked_node(), found)
        if form == "before":
            passes = shorter(passes, ended)
        else:
            _keep(found, "answer", ended)
        _keep_all(found, self._run_rest(passes, one.others(), other.others()))
        return found

    def _run_behind(self, way, one, other):
        others = self._run_rest(way, one.others(), other.others())
        found = {}
        for outcome in others:
            opens, passes = self._test(others[outcome], one)
            _keep(found, outcome, passes)
            _keep(found, 3, longer(opens, 1))
            body = self._open(longer(opens, 0), one.linked_node(), other.linked_node())
            for further in body:
                _keep(found, outcome if further == "end" else further, body[further])
        return found

    def _test(self, way, side):
        """The ways to the opening of the first aside's body, and to passing it over."""
        if side.first_aside()[4][0] == "n":
            return way, None
        return longer(way, 1), longer(way, 0)

    def _race_deed(self, way, one, other):
        if one.moment != other.moment:
            self._differ(way)
            return {}
        if one.moment[0] == "call":
            found = {}
            _keep(found, "answer", self._begin(way, one.called_node(), other.called_node(), found))
            return found
        if one.moment[0] == "ask":
            return _without_none({"answer": longer(way, 0), 2: longer(way, 1)})
        return {"answer": way}

    def _begin(self, way, node, other, found):
        """The way behind a body that answers or ends; its faults, and that of a full pile, are added to found."""
        _keep(found, 3, longer(way, 1))
        body = self._open(longer(way, 0), node, other)
        for outcome in body:
            if outcome not in ("answer", "end"):
                _keep(found, outcome, body[outcome])
        return shorter(body.get("answer"), body.get("end"))

    def _open(self, way, node, other):
        """The outcomes of two bodies opened at the end of this way."""
        if way is None:
            return {}
        # If the two are alike, one stands for both.
        pair = (node, node) if self.lots[node] == self.lots[other] else (node, other)
        _keep(self.openings, pair, way)
        outcomes = self.known.get(pair, {})
        return _without_none({outcome: joined(way, outcomes[outcome]) for outcome in outcomes})


class Races:
    """All races that come of the races of these pairs; what is known of their outcomes only ever gets better."""

    def __init__(self, forms, lots, pairs):
        self.forms = forms
        self.lots = lots
        self.races = {}
        self.known = {}
        self.users = {}
        self.waiting = []
        self.queued = {}
        for pair in pairs:
            self._come_to(pair)
        at = 0
        while at < len(self.waiting):
            self.queued[self.waiting[at]] = False
            self._run(self.waiting[at])
            at += 1

    def ways_from(self, pair, way):
        """The shortest ways to all pairs that are opened behind this one, from a way to it."""
        ways = {}
        lots = [[] for _ in range(MAX_CHOICES + 1)]
        lots[way[0]].append((pair, way))
        # Each opening takes a choice, so what is found at one length leads to greater ones alone.
        for many in range(MAX_CHOICES + 1):
            for come_to, shortest in list(lots[many]):
                if come_to not in ways:
                    ways[come_to] = shortest
                    openings = self.races[come_to].openings
                    for further in openings:
                        whole = joined(shortest, openings[further])
                        if whole is not None:
                            lots[whole[0]].append((further, whole))
        return ways

    def _come_to(self, pair):
        if pair not in self.known:
            self.known[pair] = {}
            self.users[pair] = {}
            self._queue(pair)

    def _queue(self, pair):
        if not self.queued.get(pair, False):
            self.queued[pair] = True
            self.waiting.append(pair)

    def _run(self, pair):
        race = Race(self.forms, self.lots, pair, self.known)
        self.races[pair] = race
        for further in list(race.openings):
            self._come_to(further)
            self.users[further][pair] = True
        if _lengths(race.outcomes) != _lengths(self.known[pair]):
            self.known[pair] = race.outcomes
            for user in list(self.users[pair]):
                self._queue(user)


def longer(way, choice):
    """A way with one choice more."""
    return joined(way, (1, choice))


def joined(way, further):
    """A way and then a further one."""
    if way is None or way[0] + further[0] > MAX_CHOICES:
        return None
    return way[0] + further[0], (way[1], further[1])


def shorter(way, other):
    if way is None or other is None:
        return other if way is None else way
    return other if other[0] < way[0] else way


def choices_of(way):
    """The choices of a way, in order."""
    choices = []
    waiting = [way[1]]
    while len(waiting) > 0:
        trail = waiting.pop()
        if isinstance(trail, tuple):
            waiting.extend([trail[1], trail[0]])
        elif trail is not None:
            choices.append(trail)
    return tuple(choices)


def _keep(ways, key, way):
    """Keeps a way, if there is one, unless there is a shorter one already."""
    if way is not None:
        ways[key] = shorter(ways.get(key), way)


def _keep_all(ways, further):
    for key in further:
        _keep(ways, key, further[key])


def _without_none(ways):
    return {key: ways[key] for key in ways if ways[key] is not None}


def _lengths(ways):
    return {key: ways[key][0] for key in ways}
