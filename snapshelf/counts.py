"""How often blocks hang."""

from snapshelf.blocks import links
from snapshelf.trees import come_to


def counts_of(blocks, roots, places):
    """The counts of the places from 0 to the last, told by walking from the roots."""
    counts = [0] * (places + 1)
    for place in roots:
        counts[place] += 1
    for place in come_to(blocks, roots):
        for link in links(blocks[place]):
            counts[link] += 1
    return counts


def hung(blocks, counts, place):
    """The counts with one root more, at the place."""
    return moved_counts(blocks, counts, place, 1)


def let_go(blocks, counts, place):
    """The counts with one root less, at a root's place."""
    return moved_counts(blocks, counts, place, -1)


def moved_counts(blocks, counts, place, more):
    """The counts with so many roots more at the place, 1 or -1."""
    behind = list(counts)
    waiting = [place]
    while waiting:
        each = waiting.pop()
        ahead = behind[each]
        behind[each] += more
        # Only what begins or ceases to hang changes how often its links hang.
        if 0 in (ahead, behind[each]):
            waiting.extend(links(blocks[each]))
    return behind
