"""The paper of a disk, made by walking from the roots."""

from snapshelf.blocks import links
from snapshelf.trees import found_by


def disk_paper(blocks, roots):
    """Pairs of a place and its hangers, one for each place that hangs."""
    order = found_by(blocks, roots)
    hangers = {place: [] for place in order}
    for number, place in enumerate(roots):
        hangers[place].append((0, number))
    # The walk comes to a place first from the first one in its order that links to it, so that one stands ahead.
    for place in order:
        for number, link in enumerate(links(blocks[place])):
            hangers[link].append((place, number))
    return [(place, tuple(hangers[place])) for place in order]
