"""Deeds done by a stock on the view at a place."""

from snapshelf.blocks import file_content, folder_content, folder_rows, kind_of, leaf_content, links, named_places
from snapshelf.deeds import done, is_deed
from snapshelf.errors import NoDeed
from snapshelf.making import bundled, kept_place, made
from snapshelf.names import code_of
from snapshelf.things import EMPTY_VIEW
from snapshelf.trees import file_levels


def changed(stock, place, deed):
    """The place of the view behind the deed; NoDeed, what the deed refuses, Full."""
    if not is_deed(deed):
        raise NoDeed()
    paths = deed[1:] if deed[0] in ("move", "copy") else deed[1:2]
    # The outline refuses what the view would, before anything new comes.
    done(outline(stock, place, paths, {}), deed)
    return with_edits(stock, place, edits_of(stock, place, deed))


def all_changed(stock, place, deeds):
    """The place of the view behind the deeds of a list, done as one; NoDeed, what they refuse, Full."""
    # No deed's own refusal may be told ahead of a later NoDeed.
    if not all(is_deed(deed) for deed in deeds):
        raise NoDeed()
    behind = place
    for deed in deeds:
        behind = changed(stock, behind, deed)
        # What only an earlier deed of the list needed leaves its place to the later ones.
        stock.keep(behind)
    return behind


def outline(stock, place, paths, depths):
    """A thing like the one at the place along the paths, with leaves and things beside them left out.

    What stands beside a path is a row of empty folders of the same depth: the view itself may be far too large.
    """
    content = stock.content(place)
    if kind_of(content) == "file":
        return ("file", ((),) * content[1])
    rows = []
    for name, link in named_places(content).items():
        inner = [path[1:] for path in paths if path[:1] == (name,)]
        if inner:
            rows.append((name, outline(stock, link, inner, depths)))
        else:
            rows.append((name, folders_within(depth_at(stock, link, depths))))
    return ("folder", tuple(rows))


def folders_within(depth):
    """Folders within one another, of that depth."""
    thing = EMPTY_VIEW
    for level in range(depth):
        thing = ("folder", (("a", thing),))
    return thing


def depth_at(stock, place, depths):
    """The depth of the thing at the place; depths has those that are known already."""
    if place not in depths:
        content = stock.content(place)
        inner = links(content) if kind_of(content) == "folder" else ()
        depths[place] = max([1 + depth_at(stock, link, depths) for link in inner], default=0)
    return depths[place]


def edits_of(stock, place, deed):
    """What is otherwise behind the deed: pairs of a path and the place of what comes there, or None."""
    word = deed[0]
    path = deed[1]
    if word in ("folder", "file"):
        return [(path, made(stock, (word, ())))]
    if word == "out":
        return [(path, None)]
    there = place_at(stock, place, path)
    if word == "put":
        return [(path, leaf_put(stock, there, deed[2], deed[3]))]
    if word == "trim":
        return [(path, with_leaves(stock, there, file_levels(stock.memory, there)[0][:deed[2]]))]
    if word == "move":
        return [(path, None), (deed[2], there)]
    return [(deed[2], there)]


def place_at(stock, place, path):
    """The place of the thing at a path that is there."""
    there = place
    for name in path:
        there = named_places(stock.content(there))[name]
    return there


def leaf_put(stock, place, at, leaf):
    """The place of the file at the place with that leaf put."""
    leaves = file_levels(stock.memory, place)[0]
    content = leaf_content(leaf)
    if at < len(leaves):
        put = kept_place(stock, leaves[at], content)
    else:
        put = stock.place_for(content)
    return with_leaves(stock, place, leaves[:at] + [put] + leaves[at + 1:])


def with_leaves(stock, place, leaves):
    """The place of the file at the place with these leaves' places."""
    own = bundled(stock, leaves, file_levels(stock.memory, place))
    return kept_place(stock, place, file_content(len(leaves), own))


def with_edits(stock, place, edits):
    """The place of the folder at the place with these edits, each folder on their paths made once."""
    rows = dict(folder_rows(stock.content(place)))
    inner = {}
    for path, put in edits:
        code = code_of(path[0])
        if len(path) > 1:
            inner.setdefault(code, []).append((path[1:], put))
        elif put is None:
            del rows[code]
        else:
            rows[code] = put
    for code in inner:
        rows[code] = with_edits(stock, rows[code], inner[code])
    return kept_place(stock, place, folder_content(rows))
