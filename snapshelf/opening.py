"""A disk begun, and the newest root of one."""

from snapshelf.errors import NoDisk
from snapshelf.heads import ledger_content, read_ledger, read_root, root_content

COPIES = (0, 1)
ROOT_SPOTS = (0, 1)
HEAD_SPOTS = 4


def root_spot(generation):
    """The spot of a root of that generation."""
    return generation % 2


def ledger_spot(generation):
    """The spot of a ledger of that generation."""
    return 2 + generation % 2


def place_spot(place):
    """The spot of a place."""
    return HEAD_SPOTS - 1 + place


def begin(disk, once):
    """Give the disk a first root without entries, and nothing else."""
    for copy in COPIES:
        for spot in range(HEAD_SPOTS + disk.places):
            disk.rot(copy, spot, None)
        disk.write(copy, ledger_spot(1), ledger_content(1, [0] * (disk.places + 1)))
        disk.write(copy, root_spot(1), root_content(1, once, []))


def newest(disk):
    """The generation, whether blocks are kept once, the rows and the counts of the newest root; NoDisk."""
    best = None
    for spot in ROOT_SPOTS:
        for copy in COPIES:
            head = head_at(disk, copy, spot)
            if head is not None and (best is None or head[0] > best[0]):
                best = head
    if best is None:
        raise NoDisk()
    return best


def head_at(disk, copy, spot):
    """What newest tells, of the root in that cell; None where there is none in force."""
    content = disk.look(copy, spot)
    root = None if content is None else read_root(content)
    if root is None:
        return None
    generation, once, rows = root
    if root_spot(generation) != spot or any(row[2] > disk.places for row in rows):
        return None
    counts = counts_at(disk, generation)
    return None if counts is None else (generation, once, rows, counts)


def counts_at(disk, generation):
    """The counts of the ledger of that generation, or None where no copy of it is right."""
    for copy in COPIES:
        content = disk.look(copy, ledger_spot(generation))
        ledger = None if content is None else read_ledger(content, disk.places)
        if ledger is not None and ledger[0] == generation:
            return ledger[1]
    return None
