"""What the run of a weaving goes by: the chains of its rows ([G2])."""


class WovenGround:
    """The ground of runs of a weaving.

    The spot of a body is its copy; a link is a pair of a place of the tests and of a copy.
    """

    def __init__(self, weaving):
        self.cells, self.tests, self.copies, self.first_copy = weaving

    def entry(self):
        return self._body(self.first_copy)

    def rest_at(self, body, row, kind, number):
        return row[-1]

    def rest_on(self, body, row):
        return row[-1]

    def form(self, link):
        return self.tests[link[0]][0]

    def test(self, link):
        return self.tests[link[0]][1]

    def name(self, link):
        return -1 - self.copies[link[1]][0]

    def aside(self, link, body):
        """The body that a link opens above another body."""
        return self._body(link[1])

    def function(self, deed, body):
        """The body that a call opens above another body."""
        return self._body(deed[2])

    def _body(self, copy):
        letter, rows = self.copies[copy]
        return letter, rows, copy
