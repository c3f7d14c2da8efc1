"""The spots of a disk in use, and how they are mended."""

from snapshelf.heads import ledger_content, root_content
from snapshelf.mendcheck import FIRST_MENDED, SECOND_MENDED, fate_of
from snapshelf.opening import HEAD_SPOTS, ledger_spot, newest, place_spot, root_spot
from snapshelf.reading import reached


def spots_in_use(disk):
    """Pairs of a spot in use and its content, None where it can't be read, rising; NoDisk."""
    generation, once, rows, counts = newest(disk)
    contents = {
        root_spot(generation): root_content(generation, once, rows),
        ledger_spot(generation): ledger_content(generation, counts),
    }
    blocks, lost = reached(disk, [row[2] for row in rows])
    for place in blocks:
        spot = place_spot(place)
        # A right first copy that is no block is what read tells, and so what the spot is mended with.
        contents[spot] = blocks[place] if disk.read(spot) == blocks[place] else None
    for place in lost:
        contents[place_spot(place)] = None
    return [(spot, contents[spot]) for spot in sorted(contents)]


def mended(disk):
    """Mend the disk, and tell of each spot in use its fate; NoDisk."""
    paper = []
    for spot, content in spots_in_use(disk):
        fate = fate_of(spot, content, disk.cell(0, spot), disk.cell(1, spot))
        if fate == FIRST_MENDED:
            disk.write(0, spot, disk.look(1, spot))
        if fate == SECOND_MENDED:
            disk.write(1, spot, disk.look(0, spot))
        paper.append((spot, fate))
    return paper


def cells_of(disk):
    """The cells of all spots, a list for each copy, as a pair."""
    return (copy_cells(disk, 0), copy_cells(disk, 1))


def copy_cells(disk, copy):
    """The cells of all spots in that copy."""
    return [disk.cell(copy, spot) for spot in range(HEAD_SPOTS + disk.places)]
