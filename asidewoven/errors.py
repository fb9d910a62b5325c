"""The errors of this package. Each one keeps what it was made with, under the names of its arguments."""


class AsideError(ValueError):
    """What all errors of this package are."""


class Unfit(AsideError):
    """Something that is asked for is not there, or does not fit."""


class BadText(AsideError):
    """The line at this place can't stand there."""

    def __init__(self, line):
        self.line = line


class BadProgram(AsideError):
    """What is told is no program; error is what program_error tells of it."""

    def __init__(self, error):
        self.error = error


class BadAside(AsideError):
    """What is told are no asides; place and error are what asides_error tells of them."""

    def __init__(self, place, error):
        self.place = place
        self.error = error


class TooMany(AsideError):
    """There are more of something than the limit lets be."""

    def __init__(self, limit):
        self.limit = limit


class NoNode(AsideError):
    """This is no node, or none that is come to."""

    def __init__(self, node):
        self.node = node


class NoPart(AsideError):
    """No choices part these two nodes."""

    def __init__(self, node, other):
        self.node = node
        self.other = other


class NoMoment(AsideError):
    """No body of an aside was opened as the one with this number."""

    def __init__(self, number):
        self.number = number


class BadTurning(AsideError):
    """The turning can't be done; error is what turning_error tells of it."""

    def __init__(self, error):
        self.error = error


class BadBatch(AsideError):
    """These are no edits that could be done as one."""


class Rejected(AsideError):
    """The edit at this place of a batch can't be done."""

    def __init__(self, index):
        self.index = index


class TooManyEdits(AsideError):
    """No further edit can stand."""


class NothingToUndo(AsideError):
    """No edit stands."""


class NothingToRedo(AsideError):
    """No edit was taken back that could be done again."""


class NoVersion(AsideError):
    """There is no such version."""

    def __init__(self, given):
        self.given = given
