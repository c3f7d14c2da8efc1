"""The checker of a paper of what comes free."""

from snapshelf.blocks import links
from snapshelf.room import chosen_and_others
from snapshelf.values import is_number


def room_holds(paper, blocks, roots, counts, chosen):
    """Whether it, whatever is handed in, is a paper of what comes free with the chosen roots that holds."""
    if not is_room_paper(paper):
        return False
    ways = {place: way for place, by, way in paper}
    if len(ways) != len(paper) or not all(place in blocks for place in ways):
        return False
    picked, others = chosen_and_others(roots, chosen)
    if not are_by_as_told(paper, blocks, picked):
        return False
    if not all(ways[place] == () or is_way(blocks, others, ways[place], place) for place in ways):
        return False
    return is_whole(blocks, picked, ways) and are_counts_of_free(blocks, picked, ways, counts)


def is_room_paper(paper):
    """Whether it is a list of rows of two numbers and a row of numbers."""
    if not isinstance(paper, list):
        return False
    for row in paper:
        if not isinstance(row, tuple) or len(row) != 3 or not isinstance(row[2], tuple):
            return False
        if not all(is_number(part) for part in row[:2] + row[2]):
            return False
    return True


def are_by_as_told(paper, blocks, picked):
    """Whether each place is a chosen root's, by 0, or is linked to by a place that stands ahead."""
    ahead = {}
    for place, by, way in paper:
        if by == 0:
            if place not in picked:
                return False
        elif by not in ahead or place not in links(blocks[by]):
            return False
        ahead[place] = True
    return True


def is_way(blocks, others, way, place):
    """Whether the way leads from a root that isn't chosen, link by link, to the place."""
    if way[0] not in others or way[-1] != place:
        return False
    return all(first in blocks and second in links(blocks[first]) for first, second in zip(way, way[1:]))


def is_whole(blocks, picked, ways):
    """Whether each chosen root's place, and each link of each place that stands in the paper, stands in it."""
    if not all(place in ways for place in picked):
        return False
    return all(link in ways for place in ways for link in links(blocks[place]))


def are_counts_of_free(blocks, picked, ways, counts):
    """Whether of each place that comes free all its hangers are chosen roots and blocks that come free."""
    free = [place for place in ways if ways[place] == ()]
    hangs = {place: 0 for place in ways}
    for place in picked:
        hangs[place] += 1
    for place in free:
        for link in links(blocks[place]):
            hangs[link] += 1
    return all(place < len(counts) and counts[place] == hangs[place] for place in free)
