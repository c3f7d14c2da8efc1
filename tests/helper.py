"""Values that several test files use."""

from snapshelf.names import code_of
from snapshelf.trees import come_to, is_good

EMPTY = ("folder", ())
NAMES = ("a", "b", "c", "z", "aa", "ab", "ba", "zz", "aaa", "h")


def nested(depth, one):
    """A list within a list, so many times, and the value in the innermost."""
    for level in range(depth):
        one = [one]
    return one


# What may be handed in as whatever it is; no name, path text, leaf, thing, deed, view text, block or cell.
WHATEVER = (
    None, True, False, -1, 10 ** 30, -(10 ** 30), "~", " ", "\n", "A", "a b", "a\n", "a1",
    [], ["a"], [[]], [()], {}, {"a": 1}, {1: ()}, ("a", 1, None), ((),), (None,), (True, False), (-1,), (256,),
    ("file",), ("folder",), ("file", []), ("folder", []), ("file", None), ("folder", {}), ("leaf", ()),
    ["file", ()], ["folder", ("a",)], [0], [1, 5], ([], []), ({}, ()), ([],), ({},), (("a",), ("folder", ())),
    nested(29, 7), nested(29, "a"), (nested(28, ()), ()),
)


def folder(**things):
    """A folder of these things, given with their names in the order of the codes."""
    return ("folder", tuple(things.items()))


def file(*leaves):
    """A file of these leaves."""
    return ("file", tuple(leaves))


def chain(names, last):
    """A thing below one folder for each of the names."""
    for name in reversed(names):
        last = ("folder", ((name, last),))
    return last


def refusal(call, *args):
    """The name of the class of what the call refuses with, or None if it answers."""
    try:
        call(*args)
    except ValueError as error:
        return error.__class__.__name__
    return None


def some_path(source, paths):
    """A path that is there, one just below such a one, or any."""
    there = sorted(paths)
    if there and source.random() < 0.8:
        path = source.choice(there)
        if source.random() < 0.5 and len(path) < 6:
            return path + (source.choice(NAMES),)
        return path
    return tuple(source.choice(NAMES) for k in range(source.randint(1, 3)))


def some_deed(source, paths):
    """A deed that is done or refused on a view with these paths."""
    # Few things go out, so that folders fill up.
    word = source.choice(("folder", "file", "put", "move", "copy") * 4 + ("trim", "trim", "out"))
    path = some_path(source, paths)
    if word == "put":
        return (word, path, source.choice((0, 1, 2, 3, 64)), tuple(source.randrange(256) for k in range(source.randint(0, 3))))
    if word == "trim":
        return (word, path, source.randint(0, 4))
    if word in ("move", "copy"):
        return (word, path, some_path(source, paths))
    return (word, path)


def put_block(blocks, content):
    """Put the content at the next place; that place."""
    place = max(blocks, default=0) + 1
    blocks[place] = content
    return place


def laid(blocks, thing):
    """Lay the thing into the blocks, each block at a place of its own; the thing's place."""
    if thing[0] == "folder":
        content = (3,)
        for name, inner in thing[1]:
            content += (code_of(name), laid(blocks, inner))
        return put_block(blocks, content)
    many = len(thing[1])
    level = [put_block(blocks, (0,) + leaf) for leaf in thing[1]]
    reach = 4
    while reach < many:
        level = [put_block(blocks, (1,) + tuple(level[at:at + 4])) for at in range(0, len(level), 4)]
        reach *= 4
    return put_block(blocks, (2, many) + tuple(level))


def leaves(many):
    """So many leaves, no two alike."""
    return [(number, 7) for number in range(many)]


def dense(last):
    """Blocks in which a thing hangs at 8 ** 6 paths, and the place of the outermost folder."""
    blocks = {}
    place = laid(blocks, last)
    for level in range(6):
        content = (3,)
        for name in "abcdefgh":
            content += (code_of(name), place)
        place = put_block(blocks, content)
    return blocks, place


def walked(blocks, roots):
    """All hangers by the places they hang, told by going each way from the roots once."""
    hangers = {}
    waiting = [(place, (0, number)) for number, place in enumerate(roots)]
    while waiting:
        place, hanger = waiting.pop()
        if place not in hangers:
            hangers[place] = []
            content = blocks[place]
            inner = {0: (), 1: content[1:], 2: content[2:], 3: content[2::2]}[content[0]]
            waiting += [(link, (place, number)) for number, link in enumerate(inner)]
        hangers[place].append(hanger)
    return hangers


def some_shelf(source):
    """Blocks with several views in them that have much in common, and places of views and files for roots."""
    blocks = {}
    places = []
    for view in range(4):
        inner = [laid(blocks, file(*[(source.randrange(3),)] * source.choice((0, 1, 4, 5, 17))))]
        for level in range(source.randint(1, 4)):
            content = (3,)
            for name in sorted(source.sample("abcdefgh", source.randint(0, 4))):
                content += (code_of(name), source.choice(inner + places))
            inner.append(put_block(blocks, content))
        places += inner
    # Of what is at hand only what isn't too deep is a view.
    good = [place for place in places if is_good(blocks, place, "folder") or is_good(blocks, place, "file")]
    return {place: blocks[place] for place in come_to(blocks, good)}, good
