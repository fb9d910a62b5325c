"""Errors for what is no program and for what are no asides, where these are due ([A12], [A14], [L1])."""

from asidewoven.errors import BadAside, BadProgram
from asidewoven.programs import asides_error, program_error


def check_program(program):
    """BadProgram is raised if this is no program."""
    error = program_error(program)
    if error is not None:
        raise BadProgram(error)


def check_asides(program, asides):
    """BadAside is raised if these are no asides of the program."""
    error = asides_error(program, asides)
    if error == "form":
        raise BadAside(None, error)
    if error is not None:
        place, word = error
        raise BadAside(place, word)
