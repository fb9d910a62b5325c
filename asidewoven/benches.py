"""Benches: programs with asides that edits change, and that are taken back ([L1] to [L3])."""

from asidewoven.bounds import MAX_EDITS, MAX_INPUTS, MAX_STEPS
from asidewoven.checks import check_asides, check_program
from asidewoven.edits import edited, edited_all, is_batch
from asidewoven.errors import AsideError, BadBatch, NothingToRedo, NothingToUndo, NoVersion, TooManyEdits, Unfit
from asidewoven.expressions import is_number
from asidewoven.machine import run
from asidewoven.values import is_place, is_tuple_of, is_within
from asidewoven.weaving import weave


class Bench:
    """A program with its asides.

    A state is a pair of a program and of asides: past has those ahead of each edit that stands, taken those behind each
    one that was taken back, the last one behind.
    """

    def __init__(self, program, asides):
        check_program(program)
        check_asides(program, asides)
        self._program = program
        self._asides = asides
        self._past = []
        self._taken = []

    @property
    def program(self):
        return self._program

    @property
    def asides(self):
        return self._asides

    @property
    def version(self):
        """How many edits stand."""
        return len(self._past)

    def __len__(self):
        return len(self._asides)

    def __getitem__(self, place):
        if not is_place(place, len(self._asides)):
            raise Unfit()
        return self._asides[place]

    def __iter__(self):
        return iter(self._asides)

    def __eq__(self, other):
        return isinstance(other, Bench) and self._program == other._program and self._asides == other._asides

    def __ne__(self, other):
        return not self == other

    def told(self, inputs, steps):
        """What run tells of the program with its asides."""
        if not is_tuple_of(inputs, 0, MAX_INPUTS) or not all([is_number(number) for number in inputs]):
            raise Unfit()
        if not is_within(steps, 0, MAX_STEPS):
            raise Unfit()
        return run(self._program, self._asides, inputs, steps)

    def woven(self):
        """The weaving of the program with its asides, and its chart."""
        return weave(self._program, self._asides, ())

    def row(self, f, place, row):
        """Exchanges a row of a function."""
        return self._keep(edited(self._state(), ("row", f, place, row)))

    def put(self, place, aside):
        """Puts one aside more at a place."""
        return self._keep(edited(self._state(), ("put", place, aside)))

    def out(self, place):
        """Takes out the aside at a place."""
        return self._keep(edited(self._state(), ("out", place)))

    def swap(self, place, further):
        """Exchanges the asides at two places."""
        return self._keep(edited(self._state(), ("swap", place, further)))

    def batch(self, edits):
        """Does several edits as one."""
        if not is_batch(edits):
            raise BadBatch()
        return self._keep(edited_all(self._state(), edits))

    def undo(self):
        """Takes back the last edit that stands."""
        if len(self._past) == 0:
            raise NothingToUndo()
        self._taken.append(self._state())
        self._go_to(self._past.pop())
        return self.version

    def redo(self):
        """Does the edit again that was taken back last."""
        if len(self._taken) == 0:
            raise NothingToRedo()
        self._past.append(self._state())
        self._go_to(self._taken.pop())
        return self.version

    def at(self, version):
        """The program and the asides when so many edits stood, of those that stand now."""
        if not is_within(version, 0, len(self._past)):
            raise NoVersion(version)
        return self._state() if version == len(self._past) else self._past[version]

    def copy(self):
        """A bench with the same edits, those taken back too, that goes its own way."""
        other = Bench(self._program, self._asides)
        other._past = list(self._past)
        other._taken = list(self._taken)
        return other

    def attempt(self, work):
        """What work returns of this bench; if it raises an error of this package the bench is as it was ahead."""
        state, past, taken = self._state(), list(self._past), list(self._taken)
        try:
            return work(self)
        except AsideError:
            self._go_to(state)
            self._past = past
            self._taken = taken
            raise

    def _state(self):
        return self._program, self._asides

    def _go_to(self, state):
        self._program, self._asides = state

    def _keep(self, state):
        """Lets an edit stand that has led to this state; returns the new version."""
        if len(self._past) == MAX_EDITS:
            raise TooManyEdits()
        self._past.append(self._state())
        self._go_to(state)
        self._taken = []
        return self.version
