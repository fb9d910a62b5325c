"""Readers of piles: each reads a pile letter by letter and tells whether a pile part has what it read ([C1]).

The states of a reader are integers. start is the one behind the empty pile, behind(state, group) the one behind one
letter more, has(state) tells whether the part has the pile. No pile is had any more behind the state dead, each one
is behind full; either is NO_STATE if none is known. needed(states) leaves out states that some others of them make
needless where a pile is had if any of them has it. Letters that a part does not tell apart are one group.
"""

from asidewoven.parts import inner_parts

NO_STATE = -1


class Table:
    """A reader whose states are all known: rows has for each state the ones behind it, group by group.

    wider has for each state those that have all further piles that it has, and more, as far as they are known.
    """

    def __init__(self, rows, fits):
        self.rows = rows
        self.fits = fits
        self.start = 0
        self.dead = self._staying(False)
        self.full = self._staying(True)
        self.wider = [() for _ in rows]

    def behind(self, state, group):
        return self.rows[state][group]

    def has(self, state):
        return self.fits[state]

    def needed(self, states):
        return [
            state for state in sorted(set(states))
            if state != self.dead and not any([other in states for other in self.wider[state]])
        ]

    def _staying(self, fit):
        """The first state that is never left and has all its piles, or none."""
        for state, row in enumerate(self.rows):
            if self.fits[state] == fit and all([further == state for further in row]):
                return state
        return NO_STATE


class Numbered:
    """A reader of a part made of others; a rule tells its states, which get numbers as they come."""

    def __init__(self, rule):
        self.rule = rule
        self.dead = 0
        self.full = 1
        self.shapes = ["dead", "full"]
        self.fits = [False, True]
        self.numbers = {"dead": 0, "full": 1}
        self.steps = {}
        self.start = self._number_of(rule.beginning())

    def behind(self, state, group):
        if state in (self.dead, self.full):
            return state
        step = (state, group)
        if step not in self.steps:
            self.steps[step] = self._number_of(self.rule.moved(self.shapes[state], group))
        return self.steps[step]

    def has(self, state):
        return self.fits[state]

    def needed(self, states):
        return [state for state in sorted(set(states)) if state != self.dead]

    def _number_of(self, shape):
        if shape not in self.numbers:
            self.numbers[shape] = len(self.shapes)
            self.shapes.append(shape)
            self.fits.append(self.rule.fit(shape))
        return self.numbers[shape]


class Choice:
    """The rule of "or", "and" and "not": a state is one of each of the parts."""

    def __init__(self, word, inners):
        self.how = word
        self.inners = inners

    def beginning(self):
        return self._settled(tuple([inner.start for inner in self.inners]))

    def moved(self, shape, group):
        return self._settled(tuple([inner.behind(state, group) for inner, state in zip(self.inners, shape)]))

    def fit(self, shape):
        return self._holds([inner.has(state) for inner, state in zip(self.inners, shape)])

    def _holds(self, truths):
        if self.how == "or":
            return any(truths)
        return all(truths) if self.how == "and" else not truths[0]

    def _settled(self, states):
        """The states, or the word for them if nothing hangs on further letters any more."""
        can_fit = [state != inner.dead for inner, state in zip(self.inners, states)]
        can_fail = [state != inner.full for inner, state in zip(self.inners, states)]
        # What an or or an and can come to hangs on what its parts can; a not turns it round.
        if self.how == "not":
            can_fit, can_fail = can_fail, can_fit
        if not (all(can_fit) if self.how == "and" else any(can_fit)):
            return "dead"
        if not (all(can_fail) if self.how == "or" else any(can_fail)):
            return "full"
        return states


class Row:
    """The rule of "row": a state is the pairs (place, state) of all ways to have cut the pile so far."""

    def __init__(self, inners):
        self.inners = inners
        # Whether the parts behind each place all have the empty pile.
        self.tails = [
            all([further.has(further.start) for further in inners[place + 1:]]) for place in range(len(inners))
        ]

    def beginning(self):
        return self._begun([(0, self.inners[0].start)])

    def moved(self, shape, group):
        return self._begun([(place, self.inners[place].behind(state, group)) for place, state in shape])

    def fit(self, shape):
        return any([self.tails[place] and self.inners[place].has(state) for place, state in shape])

    def _begun(self, pairs):
        """The pairs, and those of the parts that can begin here; none from which nothing can come."""
        lots = [[] for _ in self.inners]
        for place, state in pairs:
            lots[place].append(state)
        found = []
        begins = False
        for place, inner in enumerate(self.inners):
            states = lots[place] + [inner.start] if begins else lots[place]
            if inner.full in states and self.tails[place]:
                return "full"
            found.extend([(place, state) for state in inner.needed(states)])
            begins = any([inner.has(state) for state in states])
        return tuple(found) if len(found) > 0 else "dead"


class Star:
    """The rule of "star": a state tells whether a cut can be here, then the states of the piece begun."""

    def __init__(self, inner):
        self.inner = inner

    def beginning(self):
        return self._with_cut([], True)

    def moved(self, shape, group):
        states = [self.inner.behind(state, group) for state in shape[1:]]
        return self._with_cut(states, any([self.inner.has(state) for state in states]))

    def fit(self, shape):
        return shape[0]

    def _with_cut(self, states, cut):
        if cut:
            states = states + [self.inner.start]
        if self.inner.full in states:
            return "full"
        found = tuple(self.inner.needed(states))
        return (cut,) + found if cut or len(found) > 0 else "dead"


class LetterReader:
    """A reader of piles of these letters, by the letters themselves."""

    def __init__(self, part, letters):
        firsts, groups = groups_of((part,), letters)
        self.groups = {letter: group for letter, group in zip(letters, groups)}
        self.reader = reader_of(part, firsts)
        self.start = self.reader.start

    def behind(self, state, letter):
        return self.reader.behind(state, self.groups[letter])

    def has(self, state):
        return self.reader.has(state)


def letter_sets(part):
    """The letters of all ("letters", ..) in a part."""
    if part[0] == "letters":
        return [part[1]]
    found = []
    for inner in inner_parts(part):
        found.extend(letter_sets(inner))
    return found


def groups_of(parts, letters):
    """The groups of letters that none of the parts tells apart, numbered in the order of their first letters.

    Returns the first letters of the groups, and the groups of the letters.
    """
    sets = []
    for part in parts:
        sets.extend(letter_sets(part))
    numbers = {}
    firsts = []
    groups = []
    for letter in letters:
        marks = tuple([letter in some for some in sets])
        if marks not in numbers:
            numbers[marks] = len(firsts)
            firsts.append(letter)
        groups.append(numbers[marks])
    return firsts, groups


def leaf_reader(part, firsts):
    """The reader of a part that has no parts in it; firsts are the first letters of the groups."""
    if part[0] == "none":
        return Table((_all_to(1, firsts), _all_to(1, firsts)), (True, False))
    taken = [part[0] == "any" or letter in part[1] for letter in firsts]
    rows = (tuple([1 if take else 2 for take in taken]), _all_to(2, firsts), _all_to(2, firsts))
    return Table(rows, (False, True, False))


def joined_reader(part, inners):
    """The reader of a part made of the parts that these readers are of."""
    if part[0] == "row":
        return Numbered(Row(inners))
    if part[0] == "star":
        return Numbered(Star(inners[0]))
    return Numbered(Choice(part[0], inners))


def reader_of(part, firsts):
    """A reader of the part, whose states are known as they are come to."""
    inners = [reader_of(inner, firsts) for inner in inner_parts(part)]
    return joined_reader(part, inners) if len(inners) > 0 else leaf_reader(part, firsts)


def _all_to(state, firsts):
    return tuple([state for _ in firsts])
