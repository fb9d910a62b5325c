"""Rows with chains: each row with a moment has one item more, the last one, its chain ([G1])."""

from asidewoven.plans import MOMENT_WORDS
from asidewoven.programs import rows_of
from asidewoven.rows import changed_rows

# The copy in a deed that opens no body.
NO_COPY = -1


def with_chains(rows, chains):
    """Rows of a body with chains, which are told by the places of the rows."""
    return changed_rows(rows, lambda place, row: row + (chains[place],) if row[0] in MOMENT_WORDS else row)


def without_chains(rows):
    return changed_rows(rows, lambda place, row: row[:-1] if row[0] in MOMENT_WORDS else row)


def with_copies_renamed(rows, names):
    """Rows in whose chains each copy is exchanged for the one that names has for it."""
    return changed_rows(
        rows, lambda place, row: row[:-1] + (renamed(row[-1], names),) if row[0] in MOMENT_WORDS else row
    )


def renamed(chain, names):
    """A chain with each copy exchanged for the one that names has for it."""
    links, deed = chain
    if deed is not None and deed[2] != NO_COPY:
        deed = deed[:2] + (names[deed[2]],)
    return tuple([(place, names[copy]) for place, copy in links]), deed


def copies_named(chain):
    """The copies that the links and the deed of a chain name, in their order."""
    links, deed = chain
    copies = [copy for _, copy in links]
    if deed is not None and deed[2] != NO_COPY:
        copies.append(deed[2])
    return copies


def chain_told(links, deed, numbers):
    """The chain for the links and the deed of a node; numbers has the copy for each node in them."""
    if deed is not None:
        kind, number, node = deed
        deed = (kind, number, NO_COPY if node is None else numbers[node])
    return tuple([(place, numbers[node]) for place, node in links]), deed


def chains_in(rows):
    """The pairs (place, chain) of all rows that have a chain, ascending by their places."""
    return [(place, row[-1]) for place, row in rows_of(rows) if row[0] in MOMENT_WORDS]
