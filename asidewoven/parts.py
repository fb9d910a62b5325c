"""Letters and pile parts ([A7])."""

from asidewoven.bounds import MAX_FUNCTIONS, MAX_PARTS
from asidewoven.values import is_pair, is_within

LEAST_LETTER = -100
PART_DEPTH = 6


def is_letter(value):
    return is_within(value, LEAST_LETTER, MAX_FUNCTIONS - 1)


def is_part(value):
    """Whether value is a pile part."""
    waiting = [(value, 1)]
    many = 0
    while len(waiting) > 0:
        part, depth = waiting.pop()
        many += 1
        if many > MAX_PARTS or depth > PART_DEPTH or not _is_part_itself(part):
            return False
        for inner in inner_parts(part):
            waiting.append((inner, depth + 1))
    return True


def inner_parts(part):
    """The parts right within a pile part, in their order."""
    if part[0] in ("row", "or", "and"):
        return part[1]
    if part[0] in ("not", "star"):
        return (part[1],)
    return ()


def _is_part_itself(value):
    """Whether value is a pile part if what stands in it for parts are some."""
    if value in (("none",), ("any",)):
        return True
    if not is_pair(value):
        return False
    word, inner = value
    if word == "letters":
        return isinstance(inner, tuple) and all([is_letter(letter) for letter in inner])
    if word in ("row", "or", "and"):
        return isinstance(inner, tuple) and len(inner) > 0
    return word in ("not", "star")
