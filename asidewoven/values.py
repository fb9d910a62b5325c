"""What any value is asked for: integers and tuples, as the conventions tell them ([A3])."""


def is_integer(value):
    # Python counts True and False as integers; this package does not.
    return isinstance(value, int) and not isinstance(value, bool)


def is_within(value, least, greatest):
    return is_integer(value) and least <= value <= greatest


def is_place(value, many):
    """Whether value is the place of one of so many items."""
    return is_within(value, 0, many - 1)


def is_tuple_of(value, fewest, most):
    """Whether value is a tuple of at least fewest and at most most items."""
    return isinstance(value, tuple) and fewest <= len(value) <= most


def is_pair(value):
    return is_tuple_of(value, 2, 2)


def is_ascending(items):
    """Whether each item is less than the one behind it; all of them can be compared."""
    return all([low < high for low, high in zip(items, items[1:])])
