"""The contents of roots and ledgers."""

from snapshelf.blocks import is_code
from snapshelf.names import code_of, name_of
from snapshelf.rows import MOST_ENTRIES

ENTRY_KINDS = ("house", "snap")
MOST_BOUND = 500
NUMBERS_AHEAD = 2
NUMBERS_OF_ROW = 4


def root_content(generation, once, rows):
    """The content of a root."""
    content = [generation, 1 if once else 0]
    for name, kind, place, last in rows:
        content.extend([code_of(name), ENTRY_KINDS.index(kind), place, last if kind == "house" else code_of(last)])
    return tuple(content)


def ledger_content(generation, counts):
    """The content of a ledger."""
    return (generation, *counts[1:])


def read_root(content):
    """The generation, whether blocks are kept once, and the rows of the entries; None of what is no root's."""
    many, left = divmod(len(content) - NUMBERS_AHEAD, NUMBERS_OF_ROW)
    # Fewer than two numbers leave some, too.
    if left != 0 or many > MOST_ENTRIES:
        return None
    if content[0] == 0 or content[1] > 1:
        return None
    rows = []
    for at in range(NUMBERS_AHEAD, len(content), NUMBERS_OF_ROW):
        rows.append(read_row(content[at:at + NUMBERS_OF_ROW]))
    if None in rows or len({row[0] for row in rows}) != many:
        return None
    return (content[0], content[1] == 1, rows)


def read_row(numbers):
    """The row of an entry, or None where the four numbers tell none."""
    code, kind, place, last = numbers
    if not is_code(code) or place == 0:
        return None
    if kind == 0 and 1 <= last <= MOST_BOUND:
        return (name_of(code), "house", place, last)
    if kind == 1 and is_code(last):
        return (name_of(code), "snap", place, name_of(last))
    return None


def read_ledger(content, places):
    """The generation and the counts; None of what is no ledger's of so many places."""
    if len(content) != places + 1 or content[0] == 0:
        return None
    return (content[0], [0, *content[1:]])
