"""Pile parts and moments of asides as words of a line, written and read ([A13], [A14])."""

from asidewoven.errors import BadText
from asidewoven.parts import PART_DEPTH, inner_parts


def part_text(part):
    if part[0] in ("none", "any"):
        return part[0]
    if part[0] == "letters":
        items = [str(letter) for letter in part[1]]
    else:
        items = [part_text(inner) for inner in inner_parts(part)]
    return "(" + " ".join([part[0]] + items) + ")"


def moment_text(moment):
    word, number = moment
    if word in ("tell", "ask"):
        return word
    return f"{word} any" if number is None else f"{word} {number}"


def read_part(words, depth=PART_DEPTH):
    """Takes a pile part that is nested at most so deep."""
    if depth == 0:
        raise BadText(words.place)
    word = words.take_one_of(("none", "any", "("))
    if word != "(":
        return (word,)
    word = words.take_one_of(("letters", "row", "or", "and", "not", "star"))
    items = []
    while not words.next_is(")"):
        items.append(words.take_number() if word == "letters" else read_part(words, depth - 1))
    words.take_one_of((")",))
    return _part_made(words, word, items)


def read_moments(words):
    """Takes moments up to the end of the line, one at least."""
    moments = [_read_moment(words)]
    while not words.is_over():
        moments.append(_read_moment(words))
    return tuple(moments)


def _part_made(words, word, items):
    """The part of a word and of what stands behind it in its brackets."""
    if word == "letters":
        return word, tuple(items)
    if len(items) == 0 or (word in ("not", "star") and len(items) > 1):
        raise BadText(words.place)
    return word, items[0] if word in ("not", "star") else tuple(items)


def _read_moment(words):
    word = words.take_one_of(("call", "get", "put", "tell", "ask"))
    if word in ("tell", "ask"):
        return word, None
    if words.next_is("any"):
        words.take()
        return word, None
    return word, words.take_number()
