"""The blocks on a disk, as far as they can be read."""

from snapshelf.blocks import is_block, links
from snapshelf.opening import COPIES, place_spot


def block_on(disk, place):
    """The block at the place of the disk, or None where it can't be read in either copy."""
    for copy in COPIES:
        content = disk.look(copy, place_spot(place))
        # What is no block can't be read, though its sum be right; look tells None of a wrong one.
        if is_block(content) and all(link <= disk.places for link in links(content)):
            return content
    return None


def reached(disk, places):
    """What is come to from the places: the blocks that can be read, and the places that can't, rising, as a pair."""
    blocks = {}
    lost = {}
    waiting = list(places)
    while waiting:
        place = waiting.pop()
        if place in blocks or place in lost:
            continue
        content = block_on(disk, place)
        if content is None:
            lost[place] = True
        else:
            blocks[place] = content
            waiting.extend(links(content))
    return (blocks, sorted(lost))
