"""The checker of a paper of the disk."""

from snapshelf.blocks import links
from snapshelf.values import is_number


def disk_holds(paper, blocks, roots, counts, once):
    """Whether it, whatever is handed in, is a paper of the disk that holds."""
    if not is_disk_paper(paper):
        return False
    hangers = dict(paper)
    if len(hangers) != len(paper) or not all(place in blocks for place in hangers):
        return False
    if not are_all_hangers(hangers, blocks, roots) or not first_ones_stand_ahead(paper):
        return False
    return are_counts(counts, hangers) and (not once or all_differ(blocks, hangers))


def is_disk_paper(paper):
    """Whether it is a list of pairs of a number and a row of pairs of numbers."""
    if not isinstance(paper, list):
        return False
    for row in paper:
        if not isinstance(row, tuple) or len(row) != 2 or not is_number(row[0]) or not isinstance(row[1], tuple):
            return False
        if not all(is_hanger(hanger) for hanger in row[1]):
            return False
    return True


def is_hanger(one):
    """Whether it is a pair of numbers."""
    return isinstance(one, tuple) and len(one) == 2 and is_number(one[0]) and is_number(one[1])


def are_all_hangers(hangers, blocks, roots):
    """Whether each root and each link of the blocks is a hanger of its place once, and nothing else is one."""
    due = {(0, number): place for number, place in enumerate(roots)}
    for place in hangers:
        for number, link in enumerate(links(blocks[place])):
            due[(place, number)] = link
    told = [(hanger, place) for place in hangers for hanger in hangers[place]]
    # Were one told twice, there would be more of them than are due.
    return len(told) == len(due) and dict(told) == due


def first_ones_stand_ahead(paper):
    """Whether each place has a hanger, the first of them a root or a place that stands ahead."""
    ahead = {0: True}
    for place, hangers in paper:
        if not hangers or hangers[0][0] not in ahead:
            return False
        ahead[place] = True
    return True


def are_counts(counts, hangers):
    """Whether each place's count is how many hangers it has, each other count 0."""
    due = [len(hangers.get(place, ())) for place in range(len(counts))]
    return counts == due and all(place < len(counts) for place in hangers)


def all_differ(blocks, places):
    """Whether no two of the blocks at the places are alike."""
    return len({blocks[place] for place in places}) == len(places)
