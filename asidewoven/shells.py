"""Shells: benches asked by lines of text ([L4])."""

from asidewoven.benches import Bench
from asidewoven.errors import AsideError
from asidewoven.texts import parse_asides, parse_program
from asidewoven.words import number_told

COUNT_FIGURES = 6
# What all lines but those that begin a bench begin with.
BENCH_WORDS = ("put", "out", "swap", "undo", "redo", "asides", "run", "woven")
UNKNOWN = "what"


class Shell:
    """Answers lines; there is no bench as long as no program was told that could be taken."""

    def __init__(self):
        self.bench = None

    def say(self, line):
        """The answer to a line."""
        if not isinstance(line, str):
            return UNKNOWN
        word, blank, further = line.partition(" ")
        if self.bench is None and word in BENCH_WORDS:
            return "no bench"
        try:
            if word == "program" and blank == " ":
                return self._begin(further)
            if word == "put":
                return self._put(further)
            if word in BENCH_WORDS:
                return self._do(word, _numbers_in(further) if blank == " " else [])
        except AsideError as error:
            return "error " + error.__class__.__name__
        return UNKNOWN

    def _begin(self, text):
        self.bench = Bench(parse_program(_lines_in(text)), ())
        return "ok"

    def _put(self, further):
        count, blank, text = further.partition(" ")
        place = number_told(count, COUNT_FIGURES)
        if blank == "" or place is None or place < 0:
            return UNKNOWN
        asides = parse_asides(self.bench.program, _lines_in(text))
        return _version_line(self.bench.put(place, asides[0])) if len(asides) == 1 else UNKNOWN

    def _do(self, word, numbers):
        """The answer to a line with this word and these numbers behind it, which has None for what is none."""
        if None in numbers:
            return UNKNOWN
        # Only the inputs of a run can be below 0; all else that is told is a count, and a count has no sign.
        counts = numbers[:1] if word == "run" else numbers
        if not all([count >= 0 for count in counts]):
            return UNKNOWN
        if word == "run":
            return self._run(numbers[0], tuple(numbers[1:])) if len(numbers) > 0 else UNKNOWN
        if word == "out" and len(numbers) == 1:
            return _version_line(self.bench.out(numbers[0]))
        if word == "swap" and len(numbers) == 2:
            return _version_line(self.bench.swap(numbers[0], numbers[1]))
        return self._ask(word) if len(numbers) == 0 else UNKNOWN

    def _ask(self, word):
        """The answer to a line of one word."""
        if word == "undo":
            return _version_line(self.bench.undo())
        if word == "redo":
            return _version_line(self.bench.redo())
        if word == "woven":
            weaving, _ = self.bench.woven()
            return str(len(weaving[2]))
        return self._list_asides() if word == "asides" else UNKNOWN

    def _list_asides(self):
        told = [f"{aside[0]} {aside[1]}" for aside in self.bench.asides]
        return " / ".join(told) if len(told) > 0 else "none"

    def _run(self, steps, inputs):
        events, end, _ = self.bench.told(inputs, steps)
        return " / ".join([" ".join([str(item) for item in told]) for told in events + (end,)])


def _version_line(version):
    return f"version {version}"


def _lines_in(text):
    """The text with a line feed for each " / "."""
    return text.replace(" / ", "\n")


def _numbers_in(text):
    """The numbers with one blank between them, None for each that is written otherwise."""
    return [number_told(word, COUNT_FIGURES) for word in text.split(" ")]
