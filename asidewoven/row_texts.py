"""Rows as lines of a text, written and read ([A11], [A12])."""

from asidewoven.errors import BadText
from asidewoven.rows import ROW_DEPTH, ROW_ITEMS

# What begins the lines at which rows are over.
CLOSING = ("else", "catch", "end")


def expression_text(expression):
    if expression[0] == "n":
        return str(expression[1])
    if expression[0] == "v":
        return f"v{expression[1]}"
    word, first, second = expression
    return f"({word} {expression_text(first)} {expression_text(second)})"


def lines_of(rows):
    """The lines of rows, those within rows too."""
    lines = []
    for row in rows:
        lines.extend(_lines_of_row(row))
    return lines


def line_of(words):
    """The line of words and numbers, one blank between them."""
    return " ".join([str(word) for word in words])


def read_rows(lines, with_on, within=0):
    """Takes rows up to the line that closes them, which stays; within is in how many rows they are already."""
    rows = []
    while lines.ahead().take() not in CLOSING:
        rows.append(_read_row(lines, with_on, within))
    return tuple(rows)


def _lines_of_row(row):
    if row[0] == "if":
        _, expression, first, second = row
        return [f"if {expression_text(expression)}"] + lines_of(first) + ["else"] + lines_of(second) + ["end"]
    if row[0] == "try":
        _, first, kinds, slot, second = row
        return ["try"] + lines_of(first) + [line_of(("catch", slot) + kinds)] + lines_of(second) + ["end"]
    words = [row[0]]
    for sort, item in zip(ROW_ITEMS[row[0]], row[1:]):
        if sort == "expressions":
            words.extend([expression_text(expression) for expression in item])
        else:
            words.append(expression_text(item) if sort == "expression" else item)
    return [line_of(words)]


def _read_row(lines, with_on, within):
    word = lines.ahead().take()
    words = lines.take_begun(word)
    if word not in ROW_ITEMS or (word == "on" and not with_on):
        raise BadText(words.place)
    if word in ("if", "try") and within == ROW_DEPTH:
        raise BadText(words.place)
    if word == "if":
        return _read_if(lines, words, with_on, within + 1)
    if word == "try":
        return _read_try(lines, words, with_on, within + 1)
    items = tuple([_read_item(words, sort) for sort in ROW_ITEMS[word]])
    words.finish()
    return (word,) + items


def _read_item(words, sort):
    if sort == "expression":
        return words.take_expression()
    if sort == "expressions":
        return words.take_expressions()
    return words.take_number()


def _read_if(lines, words, with_on, within):
    """Reads what is behind the word of an if."""
    expression = words.take_expression()
    words.finish()
    first = read_rows(lines, with_on, within)
    lines.only("else")
    second = read_rows(lines, with_on, within)
    lines.only("end")
    return "if", expression, first, second


def _read_try(lines, words, with_on, within):
    """Reads what is behind the word of a try."""
    words.finish()
    first = read_rows(lines, with_on, within)
    catch = lines.take_begun("catch")
    slot = catch.take_number()
    kinds = catch.take_numbers()
    second = read_rows(lines, with_on, within)
    lines.only("end")
    return "try", first, kinds, slot, second
