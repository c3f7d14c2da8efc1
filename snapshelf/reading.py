"""The blocks on a disk, as far as they can be read."""

from snapshelf.blocks import is_block, links
from snapshelf.errors import Lost
from snapshelf.opening import place_spot


def block_on(disk, place):
    """The block at the place of the disk, or None where none can be read."""
    try:
        content = disk.read(place_spot(place))
    except Lost:
        return None
    if not is_block(content) or any(link > disk.places for link in links(content)):
        return None
    return content


def reached(disk, places):
    """What is come to from the places: the blocks that can be read, and the places that can't, rising, as a pair."""
    blocks = {}
    lost = {}
    waiting = list(places)
    while waiting:
        place = waiting.pop()
        if place in blocks or place in lost:
            continue
        content = block_on(disk, place)
        if content is None:
            lost[place] = True
        else:
            blocks[place] = content
            waiting.extend(links(content))
    return (blocks, sorted(lost))
