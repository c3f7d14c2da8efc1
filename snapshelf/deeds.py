"""The seven deeds on a view, one by one and as a list."""

from snapshelf.errors import NoDeed, NoLeaf, NoThing, Taken, TooDeep, TooMany, Within
from snapshelf.names import LONGEST_PATH, is_path
from snapshelf.things import MOST_LEAVES, MOST_THINGS, depth_of, is_folder, is_leaf, thing_at, with_thing
from snapshelf.values import is_number_to


def is_deed(one):
    """Whether it is a deed, whatever is handed in."""
    if not isinstance(one, tuple) or len(one) < 2 or not is_inner_path(one[1]):
        return False
    word = one[0]
    rest = one[2:]
    if word in ("folder", "file", "out"):
        return rest == ()
    if word == "put":
        return len(rest) == 2 and is_number_to(rest[0], MOST_LEAVES) and is_leaf(rest[1])
    if word == "trim":
        return len(rest) == 1 and is_number_to(rest[0], MOST_LEAVES)
    return word in ("move", "copy") and len(rest) == 1 and is_inner_path(rest[0])


def is_inner_path(one):
    """Whether it is a path of at least one name."""
    return is_path(one) and len(one) > 0


def present_thing(view, path):
    """The thing at the path, or NoThing."""
    thing = thing_at(view, path)
    if thing is None:
        raise NoThing()
    return thing


def folder_of_path(view, path):
    """The folder that what stands at the path is in, or NoThing."""
    folder = thing_at(view, path[:-1])
    if not is_folder(folder):
        raise NoThing()
    return folder


def leaves_at(view, path):
    """The leaves of the file at the path, or NoThing."""
    thing = present_thing(view, path)
    if is_folder(thing):
        raise NoThing()
    return thing[1]


def refuse_at(view, path, thing, many):
    """Taken, TooMany or TooDeep, if the thing can't come to a path whose folder has so many others."""
    if thing_at(view, path) is not None:
        raise Taken()
    if many >= MOST_THINGS:
        raise TooMany()
    if len(path) + depth_of(thing) > LONGEST_PATH:
        raise TooDeep()


def empty_made(view, deed):
    """The view with an empty folder or file more."""
    kind, path = deed
    folder = folder_of_path(view, path)
    thing = (kind, ())
    refuse_at(view, path, thing, len(folder[1]))
    return with_thing(view, path, thing)


def leaf_put(view, deed):
    """The view with a leaf of a file put."""
    word, path, at, leaf = deed
    leaves = leaves_at(view, path)
    if at > len(leaves) or at == MOST_LEAVES:
        raise NoLeaf()
    return with_thing(view, path, ("file", leaves[:at] + (leaf,) + leaves[at + 1:]))


def file_trimmed(view, deed):
    """The view with the first leaves of a file only."""
    word, path, many = deed
    leaves = leaves_at(view, path)
    if many > len(leaves):
        raise NoLeaf()
    return with_thing(view, path, ("file", leaves[:many]))


def thing_out(view, deed):
    """The view without a thing."""
    word, path = deed
    present_thing(view, path)
    return with_thing(view, path, None)


def thing_moved(view, deed):
    """The view with a thing at another path."""
    word, path, other = deed
    thing = present_thing(view, path)
    folder = folder_of_path(view, other)
    if other[:len(path)] == path:
        raise Within()
    many = len(folder[1])
    # Within one folder the thing leaves a gap for itself.
    if other[:-1] == path[:-1]:
        many -= 1
    refuse_at(view, other, thing, many)
    return with_thing(with_thing(view, path, None), other, thing)


def thing_copied(view, deed):
    """The view with a thing at another path too."""
    word, path, other = deed
    thing = present_thing(view, path)
    folder = folder_of_path(view, other)
    refuse_at(view, other, thing, len(folder[1]))
    return with_thing(view, other, thing)


ACTIONS = {
    "folder": empty_made,
    "file": empty_made,
    "put": leaf_put,
    "trim": file_trimmed,
    "out": thing_out,
    "move": thing_moved,
    "copy": thing_copied,
}


def done(view, deed):
    """The view behind the deed; NoDeed for whatever is none, or what the deed refuses."""
    if not is_deed(deed):
        raise NoDeed()
    action = ACTIONS[deed[0]]
    return action(view, deed)


def all_done(view, deeds):
    """The view behind the deeds of a list, done as one."""
    # No deed's own refusal may be told ahead of a later NoDeed.
    if not all(is_deed(deed) for deed in deeds):
        raise NoDeed()
    behind = view
    for deed in deeds:
        behind = done(behind, deed)
    return behind
