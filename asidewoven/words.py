"""Lines of a text, read line by line and word by word ([A11], [A12])."""

from asidewoven.errors import BadText
from asidewoven.expressions import EXPRESSION_DEPTH, OPERATIONS

FIGURES = "0123456789"
MOST_FIGURES = 20


class Words:
    """The words of one line; BadText is raised with the line's place where they are not as they have to be."""

    def __init__(self, line, place):
        # Each bracket becomes a word of its own; a blank too many leaves an empty word, which nobody takes.
        self.words = line.replace("(", "( ").replace(")", " )").split(" ")
        self.place = place
        self.taken = 0

    def is_over(self):
        return self.taken == len(self.words)

    def next_is(self, word):
        return not self.is_over() and self.words[self.taken] == word

    def take(self):
        """Takes the next word."""
        if self.is_over():
            raise BadText(self.place)
        self.taken += 1
        return self.words[self.taken - 1]

    def take_one_of(self, words):
        """Takes the next word, which has to be one of these."""
        word = self.take()
        if word not in words:
            raise BadText(self.place)
        return word

    def finish(self):
        if not self.is_over():
            raise BadText(self.place)

    def take_number(self):
        return self._number_in(self.take())

    def take_numbers(self):
        """Takes numbers up to the end of the line, perhaps none."""
        found = []
        while not self.is_over():
            found.append(self.take_number())
        return tuple(found)

    def take_expression(self, depth=EXPRESSION_DEPTH):
        """Takes an expression that is nested at most so deep."""
        word = self.take()
        if depth == 0:
            raise BadText(self.place)
        if word.startswith("v"):
            return "v", self._number_in(word[1:])
        if word != "(":
            return "n", self._number_in(word)
        operation = self.take_one_of(OPERATIONS)
        first = self.take_expression(depth - 1)
        second = self.take_expression(depth - 1)
        self.take_one_of((")",))
        return operation, first, second

    def take_expressions(self):
        """Takes expressions up to the end of the line, perhaps none."""
        found = []
        while not self.is_over():
            found.append(self.take_expression())
        return tuple(found)

    def _number_in(self, word):
        number = number_told(word)
        if number is None:
            raise BadText(self.place)
        return number


class Lines:
    """The lines of a text, taken one behind another."""

    def __init__(self, text):
        self.lines = text.split("\n")
        self.taken = 0

    def is_over(self):
        return self.taken == len(self.lines)

    def ahead(self):
        """The words of the next line, which is not taken yet."""
        if self.is_over():
            raise BadText(self.taken)
        return Words(self.lines[self.taken], self.taken)

    def take_begun(self, word):
        """Takes the next line, which has to begin with the word; returns its words behind that."""
        words = self.ahead()
        words.take_one_of((word,))
        self.taken += 1
        return words

    def only(self, word):
        """Takes the next line, which has to be the word and nothing else."""
        self.take_begun(word).finish()


def number_told(word, most=MOST_FIGURES):
    """The number that is written so, with at most so many figures; None if none is."""
    figures = word[1:] if word.startswith("-") else word
    if not 1 <= len(figures) <= most or not all([sign in FIGURES for sign in figures]):
        return None
    if figures[0] == "0" and word != "0":
        return None
    return int(word)
