"""What nodes of a program and its asides are by their form, and which ones a moment can open ([E1])."""

from asidewoven.fits import is_for
from asidewoven.piles import pile_machine
from asidewoven.plans import moment_plans, plans_of
from asidewoven.programs import body_at, letter_of, letters_of
from asidewoven.values import is_ascending, is_integer, is_pair, is_place, is_tuple_of


class NodeForms:
    """The letters, machines and bodies of a program with asides; TooMany is raised if a machine has too many states."""

    def __init__(self, program, asides):
        cells, functions = program
        self.many_cells = len(cells)
        self.many_functions = len(functions)
        self.listed = asides
        self.letters = letters_of(program, asides)
        self.machines = [pile_machine(aside[3], self.letters) for aside in asides]
        self.plans = {letter: plans_of(body_at(program, asides, letter)) for letter in self.letters}
        self.moment_plans = {letter: moment_plans(self.plans[letter]) for letter in self.letters}
        self.columns = {letter: column for column, letter in enumerate(self.letters)}
        self.places = {letter_of(aside): place for place, aside in enumerate(asides)}

    def then(self, states, letter):
        """The states behind one letter more."""
        column = self.columns[letter]
        return tuple([rows[state][column] for (rows, _), state in zip(self.machines, states)])

    def node_at(self, pile):
        """The node of the function on top of a pile of functions."""
        states = (0,) * len(self.listed)
        for letter in pile:
            states = self.then(states, letter)
        return pile[-1], states, None, ()

    def first_node(self):
        return self.node_at((self.many_functions - 1,))

    def fitting(self, states, kind, number):
        """The places of the asides that fit a moment in these states."""
        return tuple([
            place for place, aside in enumerate(self.listed)
            if is_for(aside, kind, number) and self.machines[place][1][states[place]]
        ])

    def called(self, states, f):
        """The node that a call of a function opens."""
        return f, self.then(states, f), None, ()

    def linked(self, states, moment, rest):
        """The node that the first aside of a rest opens."""
        aside = self.listed[rest[0]]
        letter = letter_of(aside)
        behind = self.then(states, letter)
        return (letter, behind, moment, rest[1:]) if aside[1] == "around" else (letter, behind, None, ())

    def is_node(self, value):
        if not is_tuple_of(value, 4, 4):
            return False
        letter, states, moment, rest = value
        if not is_integer(letter) or letter not in self.letters or not self._are_states(states):
            return False
        if letter < 0 and self.listed[self.places[letter]][1] == "around":
            return self._goes_on(self.places[letter], moment, rest)
        return moment is None and is_tuple_of(rest, 0, 0)

    def _are_states(self, value):
        many = len(self.listed)
        return is_tuple_of(value, many, many) and all([
            is_place(state, len(rows)) for (rows, _), state in zip(self.machines, value)
        ])

    def _goes_on(self, place, moment, rest):
        """Whether a moment and a rest can be those of a body of the around aside at this place."""
        if not is_pair(moment) or not self._is_moment(moment[0], moment[1]):
            return False
        if not isinstance(rest, tuple) or not all([is_place(further, len(self.listed)) for further in rest]):
            return False
        places = (place,) + rest
        return is_ascending(places) and all([is_for(self.listed[at], moment[0], moment[1]) for at in places])

    def _is_moment(self, kind, number):
        if kind == "call":
            return is_place(number, self.many_functions)
        if kind in ("get", "put"):
            return is_place(number, self.many_cells)
        return kind in ("tell", "ask") and number is None
