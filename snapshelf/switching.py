"""The steps by which a shelf's deed is done on its disk."""

from snapshelf.heads import ledger_content, read_root, root_content
from snapshelf.opening import COPIES, ledger_spot, place_spot, root_spot


def next_generation(disk, generation):
    """The generation of a deed on the disk where that one is in force."""
    due = generation + 1
    # A root that stands there without its ledger would come in force with the ledger of a deed of its generation.
    stale = [each for each in root_generations(disk, root_spot(due)) if each >= due]
    return max(stale) + 2 if stale else due


def root_generations(disk, spot):
    """The generations of the roots that stand in the right cells of a root's spot."""
    generations = []
    for copy in COPIES:
        content = disk.look(copy, spot)
        root = None if content is None else read_root(content)
        if root is not None and root_spot(root[0]) == spot:
            generations.append(root[0])
    return generations


def switch_steps(generation, once, rows, counts, fresh):
    """The new blocks at their places, a line, the ledger, a line, the root: each in both copies."""
    steps = []
    for place in sorted(fresh):
        steps.extend(puts_of(place_spot(place), fresh[place]))
    steps.append(("line",))
    steps.extend(puts_of(ledger_spot(generation), ledger_content(generation, counts)))
    steps.append(("line",))
    steps.extend(puts_of(root_spot(generation), root_content(generation, once, rows)))
    return steps


def puts_of(spot, content):
    """The puts of a content in both copies."""
    return [("put", copy, spot, content) for copy in COPIES]
