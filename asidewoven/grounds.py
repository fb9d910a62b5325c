"""What a run with asides goes by: which bodies there are, and which asides fit at a pile ([B4])."""

from asidewoven.fits import is_for
from asidewoven.programs import letter_of, letters_of
from asidewoven.readers import LetterReader


class PileGround:
    """The ground of runs of a program with asides, found by the pile.

    The spot of a body are the states of the asides' readers behind its pile; a link is the place of an aside.
    """

    def __init__(self, program, asides):
        self.cells, self.functions = program
        self.listed = asides
        letters = letters_of(program, asides)
        self.readers = [LetterReader(aside[3], letters) for aside in asides]

    def entry(self):
        return self.body_on((len(self.functions) - 1,))

    def body_on(self, pile):
        """The body of the function on top of a pile."""
        spot = tuple([reader.start for reader in self.readers])
        for letter in pile[:-1]:
            spot = self._behind(spot, letter)
        return self._function(pile[-1], spot)

    def rest_at(self, body, row, kind, number):
        links = tuple([
            place for place, aside in enumerate(self.listed)
            if is_for(aside, kind, number) and self.readers[place].has(body.spot[place])
        ])
        return links, (kind, number)

    def rest_on(self, body, row):
        return body.rest.links, body.rest.deed

    def form(self, link):
        return self.listed[link][1]

    def test(self, link):
        return self.listed[link][4]

    def name(self, link):
        return self.listed[link][0]

    def aside(self, link, body):
        """The body that a link opens above another body."""
        aside = self.listed[link]
        return letter_of(aside), aside[5], self._behind(body.spot, letter_of(aside))

    def function(self, deed, body):
        """The body that a call opens above another body."""
        return self._function(deed[1], body.spot)

    def _function(self, f, spot):
        return f, self.functions[f][1], self._behind(spot, f)

    def _behind(self, spot, letter):
        return tuple([reader.behind(state, letter) for reader, state in zip(self.readers, spot)])
