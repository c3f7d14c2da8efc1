"""Values that several test files use."""

import random

from snapshelf.deeds import done
from snapshelf.disk import Disk
from snapshelf.heads import ledger_content, root_content
from snapshelf.names import code_of
from snapshelf.opening import begin
from snapshelf.plainshelf import PlainShelf
from snapshelf.shelf import Shelf
from snapshelf.things import paths_of
from snapshelf.trees import come_to, is_good

EMPTY = ("folder", ())
NAMES = ("a", "b", "c", "z", "aa", "ab", "ba", "zz", "aaa", "h")


def nested(depth, one):
    """A list within a list, so many times, and the value in the innermost."""
    for level in range(depth):
        one = [one]
    return one


# What may be handed in as whatever it is; no name, path text, leaf, thing, deed, view text, block or cell.
WHATEVER = (
    None, True, False, -1, 10 ** 30, -(10 ** 30), "~", " ", "\n", "A", "a b", "a\n", "a1",
    [], ["a"], [[]], [()], {}, {"a": 1}, {1: ()}, ("a", 1, None), ((),), (None,), (True, False), (-1,), (256,),
    ("file",), ("folder",), ("file", []), ("folder", []), ("file", None), ("folder", {}), ("leaf", ()),
    ["file", ()], ["folder", ("a",)], [0], [1, 5], ([], []), ({}, ()), ([],), ({},), (("a",), ("folder", ())),
    nested(29, 7), nested(29, "a"), (nested(28, ()), ()),
)


def folder(**things):
    """A folder of these things, given with their names in the order of the codes."""
    return ("folder", tuple(things.items()))


def file(*leaves):
    """A file of these leaves."""
    return ("file", tuple(leaves))


def chain(names, last):
    """A thing below one folder for each of the names."""
    for name in reversed(names):
        last = ("folder", ((name, last),))
    return last


def refusal(call, *args):
    """The name of the class of what the call refuses with, or None if it answers."""
    try:
        call(*args)
    except ValueError as error:
        return error.__class__.__name__
    return None


def some_path(source, paths):
    """A path that is there, one just below such a one, or any."""
    there = sorted(paths)
    if there and source.random() < 0.8:
        path = source.choice(there)
        if source.random() < 0.5 and len(path) < 6:
            return path + (source.choice(NAMES),)
        return path
    return tuple(source.choice(NAMES) for k in range(source.randint(1, 3)))


def some_deed(source, paths):
    """A deed that is done or refused on a view with these paths."""
    # Few things go out, so that folders fill up.
    word = source.choice(("folder", "file", "put", "move", "copy") * 4 + ("trim", "trim", "out"))
    path = some_path(source, paths)
    if word == "put":
        return (word, path, source.choice((0, 1, 2, 3, 64)), tuple(source.randrange(256) for k in range(source.randint(0, 3))))
    if word == "trim":
        return (word, path, source.randint(0, 4))
    if word in ("move", "copy"):
        return (word, path, some_path(source, paths))
    return (word, path)


def put_block(blocks, content):
    """Put the content at the next place; that place."""
    place = max(blocks, default=0) + 1
    blocks[place] = content
    return place


def laid(blocks, thing):
    """Lay the thing into the blocks, each block at a place of its own; the thing's place."""
    if thing[0] == "folder":
        content = (3,)
        for name, inner in thing[1]:
            content += (code_of(name), laid(blocks, inner))
        return put_block(blocks, content)
    many = len(thing[1])
    level = [put_block(blocks, (0,) + leaf) for leaf in thing[1]]
    reach = 4
    while reach < many:
        level = [put_block(blocks, (1,) + tuple(level[at:at + 4])) for at in range(0, len(level), 4)]
        reach *= 4
    return put_block(blocks, (2, many) + tuple(level))


def leaves(many):
    """So many leaves, no two alike."""
    return [(number, 7) for number in range(many)]


def dense(last):
    """Blocks in which a thing hangs at 8 ** 6 paths, and the place of the outermost folder."""
    blocks = {}
    place = laid(blocks, last)
    for level in range(6):
        content = (3,)
        for name in "abcdefgh":
            content += (code_of(name), place)
        place = put_block(blocks, content)
    return blocks, place


def walked(blocks, roots):
    """All hangers by the places they hang, told by going each way from the roots once."""
    hangers = {}
    waiting = [(place, (0, number)) for number, place in enumerate(roots)]
    while waiting:
        place, hanger = waiting.pop()
        if place not in hangers:
            hangers[place] = []
            content = blocks[place]
            inner = {0: (), 1: content[1:], 2: content[2:], 3: content[2::2]}[content[0]]
            waiting += [(link, (place, number)) for number, link in enumerate(inner)]
        hangers[place].append(hanger)
    return hangers


def some_shelf(source):
    """Blocks with several views in them that have much in common, and places of views and files for roots."""
    blocks = {}
    places = []
    for view in range(4):
        inner = [laid(blocks, file(*[(source.randrange(3),)] * source.choice((0, 1, 4, 5, 17))))]
        for level in range(source.randint(1, 4)):
            content = (3,)
            for name in sorted(source.sample("abcdefgh", source.randint(0, 4))):
                content += (code_of(name), source.choice(inner + places))
            inner.append(put_block(blocks, content))
        places += inner
    # Of what is at hand only what isn't too deep is a view.
    good = [place for place in places if is_good(blocks, place, "folder") or is_good(blocks, place, "file")]
    return {place: blocks[place] for place in come_to(blocks, good)}, good


def begun(places, once):
    """A disk of so many places, begun."""
    disk = Disk(places)
    begin(disk, once)
    return disk


def written_disk(places, once, blocks, rows, counts):
    """A disk with these blocks, and with these entries and counts as its generation 2."""
    disk = Disk(places)
    for copy in (0, 1):
        for place in blocks:
            disk.write(copy, 3 + place, blocks[place])
        disk.write(copy, 2, ledger_content(2, counts))
        disk.write(copy, 0, root_content(2, once, rows))
    return disk


def cells(disk):
    """All cells of the disk, as a list for each copy."""
    return [[disk.cell(copy, spot) for spot in range(4 + disk.places)] for copy in (0, 1)]


def told(shelf):
    """All entries of a shelf of either kind, with their views."""
    return [(entry, shelf.view(entry[0])) for entry in shelf.entries()]


def all_told(shelf):
    """All that a shelf on a disk tells of itself, but views."""
    return (
        shelf.entries(), shelf.steps(), shelf.generation(), shelf.roots(), shelf.counts(), shelf.blocks(), shelf.once(),
        shelf.lost(), shelf.free(),
    )


def plain_twin(shelf):
    """A shelf of views like that one."""
    other = PlainShelf()
    other.rows = list(shelf.rows)
    return other


ENTRY_NAMES = tuple(first + second for first in "hsx" for second in "abcdef")


def some_deeds(source, view, many, refused=False):
    """So many deeds that are done on the view one behind another, or with one among them that is refused."""
    deeds = []
    while len(deeds) < many:
        deed = some_deed(source, paths_of(view))
        if refusal(done, view, deed) is None:
            view = done(view, deed)
            deeds.append(deed)
        elif refused:
            deeds.append(deed)
            refused = False
    return deeds


def some_call(source, shelf):
    """A deed of 12 on the shelf, done or refused, as the method's name and its arguments."""
    drops = ("drop",) * (1 if len(shelf.entries()) < 12 else 3)
    word = source.choice(("house", "house", "snap", "snap", "back", "clone", "rebound") + drops + ("do",) * 12)
    houses = [entry[0] for entry in shelf.entries() if entry[1] == "house"]
    snaps = [entry[0] for entry in shelf.entries() if entry[1] == "snap"]
    some = source.choice(ENTRY_NAMES)
    house = source.choice(houses) if houses and source.random() < 0.95 else some
    snap = source.choice(snaps) if snaps and source.random() < 0.95 else some
    bound = source.choice((1, 4, 30, 500, 500, 500, 500))
    if word == "do":
        view = shelf.view(house) if house in houses else EMPTY
        deeds = some_deeds(source, view, source.choice((0, 1, 1, 2, 4, 8)), source.random() < 0.1)
        if source.random() < 0.03:
            deeds.append(source.choice(WHATEVER))
        return (word, house, deeds)
    others = {
        "house": (some, bound), "snap": (house, some), "back": (house, snap), "clone": (snap, some, bound),
        "drop": (source.choice((some, house, snap)),), "rebound": (house, bound),
    }
    return (word,) + others[word]


def ask(shelf, call):
    """Ask the shelf so; how it is refused, or None."""
    return refusal(getattr(shelf, call[0]), *call[1:])


def both_asked(shelf, plain, call):
    """Ask both shelves the same, the plain one only where the other isn't Full; both answers."""
    answer = ask(shelf, call)
    return answer, ask(plain_twin(plain) if answer == "Full" else plain, call)


def long_row(seed, places, many):
    """A source of chance, and a shelf on a disk and a shelf of views behind so many of the same calls."""
    source = random.Random(seed)
    shelf, plain = Shelf(begun(places, seed % 2 == 0)), PlainShelf()
    for number in range(many):
        both_asked(shelf, plain, some_call(source, plain))
    return source, shelf, plain


def shelf_with(disk, *calls):
    """A shelf on the disk behind these deeds."""
    shelf = Shelf(disk)
    for call in calls:
        getattr(shelf, call[0])(*call[1:])
    return shelf


def file_deeds(path, many, number=0):
    """The deeds that make a file of so many leaves, no two alike."""
    return [("file", path)] + [("put", path, at, (at, number)) for at in range(many)]


def spoil(disk, place):
    """Let both copies of the place rot."""
    disk.rot(0, 3 + place, None)
    disk.rot(1, 3 + place, None)
