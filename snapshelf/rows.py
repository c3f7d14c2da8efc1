"""The entries of a shelf as rows, each with its name first and its kind second."""

from snapshelf.errors import NoEntry, NoHouse, NoSnap, Taken, TooMany

MOST_ENTRIES = 12


def find_entry(rows, name):
    """The number of the entry with that name, or None."""
    for at, row in enumerate(rows):
        if row[0] == name:
            return at
    return None


def entry_at(rows, name):
    """The number of the entry with that name, or NoEntry."""
    at = find_entry(rows, name)
    if at is None:
        raise NoEntry()
    return at


def house_at(rows, name):
    """The number of the house with that name, or NoHouse."""
    at = find_entry(rows, name)
    if at is None or rows[at][1] != "house":
        raise NoHouse()
    return at


def snap_at(rows, name):
    """The number of the snapshot with that name, or NoSnap."""
    at = find_entry(rows, name)
    if at is None or rows[at][1] != "snap":
        raise NoSnap()
    return at


def refuse_new(rows, name):
    """Taken or TooMany, if no entry with that name can come."""
    if find_entry(rows, name) is not None:
        raise Taken()
    if len(rows) >= MOST_ENTRIES:
        raise TooMany()


def with_row(rows, at, row):
    """The rows with that one at that number."""
    return [*rows[:at], row, *rows[at + 1:]]
