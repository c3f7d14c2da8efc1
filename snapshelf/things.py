"""Leaves, files, folders and views: what is one, and what is in one."""

from snapshelf.names import LONGEST_PATH, is_name, rank_of
from snapshelf.values import is_number_to

MOST_NUMBERS = 8
MOST_LEAVES = 64
MOST_THINGS = 8
EMPTY_VIEW = ("folder", ())


def is_leaf(one):
    """Whether it is a leaf, whatever is handed in."""
    return isinstance(one, tuple) and len(one) <= MOST_NUMBERS and all(is_number_to(part, 255) for part in one)


def is_pair(one):
    """Whether it is a row of two."""
    return isinstance(one, tuple) and len(one) == 2


def is_thing(one):
    """Whether it is a file or a folder, whatever is handed in."""
    return fits(one, LONGEST_PATH)


def is_view(one):
    """Whether it is a folder, whatever is handed in."""
    return is_thing(one) and is_folder(one)


def fits(one, deep):
    """Whether it is a thing in which no path has more names than deep."""
    if not is_pair(one) or not isinstance(one[1], tuple):
        return False
    kind, rows = one
    if kind == "file":
        return len(rows) <= MOST_LEAVES and all(is_leaf(leaf) for leaf in rows)
    return kind == "folder" and rows_fit(rows, deep)


def rows_fit(rows, deep):
    """Whether these are a folder's rows in which no path has more names than deep."""
    if len(rows) > MOST_THINGS or (rows and deep == 0):
        return False
    for row in rows:
        if not is_pair(row) or not is_name(row[0]) or not fits(row[1], deep - 1):
            return False
    ranks = [rank_of(row[0]) for row in rows]
    return all(first < second for first, second in zip(ranks, ranks[1:]))


def is_folder(thing):
    """Whether what is at some path, a thing or None, is a folder."""
    return thing is not None and thing[0] == "folder"


def thing_at(view, path):
    """The thing at the path of the view, or None."""
    thing = view
    for name in path:
        if not is_folder(thing):
            return None
        thing = dict(thing[1]).get(name)
    return thing


def paths_of(view):
    """The paths of all things in the view, each folder's straight ahead of those in it."""
    return paths_below(view, ())


def paths_below(thing, path):
    """The paths of all things in the thing, which stands at that path."""
    paths = []
    if is_folder(thing):
        for name, inner in thing[1]:
            inner_path = (*path, name)
            paths.append(inner_path)
            paths.extend(paths_below(inner, inner_path))
    return paths


def room_of(thing):
    """How many folders, files and leaves the thing has, itself too."""
    if is_folder(thing):
        return 1 + sum(room_of(row[1]) for row in thing[1])
    return 1 + len(thing[1])


def depth_of(thing):
    """How many names the longest path in the thing has, from it on."""
    if is_folder(thing):
        return max([1 + depth_of(row[1]) for row in thing[1]], default=0)
    return 0


def with_thing(folder, path, thing):
    """The folder with that thing at the path, whose own folder is there; with None, without what is there."""
    inner = dict(folder[1])
    name = path[0]
    if len(path) > 1:
        inner[name] = with_thing(inner[name], path[1:], thing)
    elif thing is None:
        del inner[name]
    else:
        inner[name] = thing
    return ("folder", tuple([(each, inner[each]) for each in sorted(inner, key=rank_of)]))
