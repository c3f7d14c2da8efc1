"""The paths of a shelf that can't be read."""

from snapshelf.blocks import kind_of, links, named_places


def lost_paths(shelf):
    """Pairs of an entry's name and a path in it that can't be read, in order."""
    blocks = shelf.blocks()
    whole = {}
    pairs = []
    for entry, root in zip(shelf.entries(), shelf.roots()):
        pairs.extend([(entry[0], path) for path in lost_below(blocks, root, (), whole)])
    return pairs


def lost_below(blocks, place, path, whole):
    """The paths that can't be read, of the thing that stands at that path and of all in it."""
    if is_whole(blocks, place, whole):
        return []
    if place not in blocks or kind_of(blocks[place]) != "folder":
        return [path]
    paths = []
    for name, link in named_places(blocks[place]).items():
        paths.extend(lost_below(blocks, link, (*path, name), whole))
    return paths


def is_whole(blocks, place, whole):
    """Whether all that is come to from the place is in the blocks; whole has what is known already."""
    # One place may hang at very many paths, so it is looked through once.
    if place not in whole:
        whole[place] = place in blocks and all(is_whole(blocks, link, whole) for link in links(blocks[place]))
    return whole[place]
