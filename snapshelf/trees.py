"""Blocks in memory: which places are good, what stands at them, and what is come to from them."""

from snapshelf.blocks import BUNDLE, height_of, is_block, kind_of, level_sizes, links, named_places
from snapshelf.errors import Lost
from snapshelf.names import LONGEST_PATH


def is_good(blocks, place, kind):
    """Whether the place is good for a file or for a folder."""
    if kind == "file":
        return is_good_file(blocks, place)
    return folder_fits(blocks, place, LONGEST_PATH, {})


def is_kind(blocks, place, kind):
    """Whether there is a block of that kind at the place."""
    content = blocks.get(place)
    return is_block(content) and kind_of(content) == kind


def is_good_file(blocks, place):
    """Whether there is a file at the place, with branches and leaves below it as its number of leaves says."""
    if not is_kind(blocks, place, "file"):
        return False
    content = blocks[place]
    level = links(content)
    for many in reversed(level_sizes(content[1])[:-1]):
        if not are_bundles(blocks, level, many):
            return False
        level = [link for branch in level for link in links(blocks[branch])]
    return all(is_kind(blocks, leaf, "leaf") for leaf in level)


def are_bundles(blocks, places, many):
    """Whether there are branches at the places that bundle so many by fours, the last one what is left."""
    for at, place in enumerate(places):
        if not is_kind(blocks, place, "branch"):
            return False
        if len(links(blocks[place])) != min(BUNDLE, many - at * BUNDLE):
            return False
    return True


def folder_fits(blocks, place, deep, known):
    """Whether the place is good for a folder in which no path has more names than deep."""
    if not is_kind(blocks, place, "folder"):
        return False
    inner = links(blocks[place])
    if not inner:
        return True
    return deep > 0 and all(thing_fits(blocks, link, deep - 1, known) for link in inner)


def thing_fits(blocks, place, deep, known):
    """Whether the place is good for a file, or for a folder in which no path has more names than deep."""
    # One place may hang at very many paths, so what is known of it is kept.
    key = (place, deep)
    if key not in known:
        known[key] = is_good_file(blocks, place) or folder_fits(blocks, place, deep, known)
    return known[key]


def block_at(blocks, place):
    """The block at the place, or Lost."""
    if place not in blocks:
        raise Lost()
    return blocks[place]


def file_levels(blocks, place):
    """The places below the file at the place, a list for each level, the leaves' ones first; Lost."""
    content = block_at(blocks, place)
    level = list(links(content))
    levels = [level]
    for below in range(height_of(content[1]) - 1):
        level = [link for branch in level for link in links(block_at(blocks, branch))]
        levels.append(level)
    return list(reversed(levels))


def leaf_places(blocks, place):
    """The places of the leaves of the file at the place, in order; Lost."""
    return file_levels(blocks, place)[0]


def thing_of(blocks, place):
    """The thing at a place that is good for a folder or a file; Lost."""
    content = block_at(blocks, place)
    if kind_of(content) == "file":
        return ("file", tuple([block_at(blocks, leaf)[1:] for leaf in leaf_places(blocks, place)]))
    return ("folder", tuple([(name, thing_of(blocks, link)) for name, link in named_places(content).items()]))


def room_at(blocks, place):
    """The room of the thing at the place; Lost."""
    return known_room(blocks, place, {})


def known_room(blocks, place, known):
    """The room of the thing at the place; known has those that are known already."""
    # One place may hang at very many paths, so the thing itself isn't told.
    if place not in known:
        content = block_at(blocks, place)
        if kind_of(content) == "file":
            known[place] = 1 + content[1]
        else:
            known[place] = 1 + sum(known_room(blocks, link, known) for link in links(content))
    return known[place]


def come_to(blocks, places):
    """The places that are come to from these, rising, without those that aren't in the blocks."""
    return sorted(found_by(blocks, places))


def found_by(blocks, places):
    """The place from which each one is come to first (0 of those handed in), in the order of the walk."""
    by = {}
    queue = [(place, 0) for place in places]
    at = 0
    while at < len(queue):
        place, hanger = queue[at]
        at += 1
        if place in blocks and place not in by:
            by[place] = hanger
            queue.extend([(link, place) for link in links(blocks[place])])
    return by
