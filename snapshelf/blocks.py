"""Blocks: the contents that stand for leaves, branches, files and folders."""

from snapshelf.errors import NoName
from snapshelf.names import name_of
from snapshelf.things import MOST_LEAVES, MOST_THINGS, is_leaf
from snapshelf.values import is_content

KINDS = ("leaf", "branch", "file", "folder")
BUNDLE = 4


def is_block(content):
    """Whether it is a block, whatever is handed in."""
    if not is_content(content) or len(content) == 0 or content[0] >= len(KINDS):
        return False
    kind = kind_of(content)
    if kind == "leaf":
        return is_leaf(content[1:])
    if 0 in links(content):
        return False
    if kind == "branch":
        return 1 <= len(links(content)) <= BUNDLE
    if kind == "file":
        return is_file(content)
    return is_folder_block(content)


def is_file(content):
    """Whether a content that begins as a file's has as many places as its number of leaves asks for."""
    return len(content) >= 2 and content[1] <= MOST_LEAVES and len(links(content)) == level_sizes(content[1])[-1]


def is_folder_block(content):
    """Whether a content that begins as a folder's goes on with pairs, by rising codes of names."""
    codes = content[1::2]
    if len(codes) != len(links(content)) or len(codes) > MOST_THINGS:
        return False
    return all(is_code(code) for code in codes) and all(first < second for first, second in zip(codes, codes[1:]))


def is_code(number):
    """Whether the number is a name's code."""
    try:
        name_of(number)
    except NoName:
        return False
    return True


def kind_of(content):
    """The kind of a block: leaf, branch, file or folder."""
    return KINDS[content[0]]


def links(content):
    """The places of a block, in order."""
    kind = kind_of(content)
    if kind == "leaf":
        return ()
    if kind == "branch":
        return content[1:]
    if kind == "file":
        return content[2:]
    return content[2::2]


def height_of(many):
    """The height of a file with so many leaves."""
    height = 1
    reach = BUNDLE
    while reach < many:
        height += 1
        reach *= BUNDLE
    return height


def level_sizes(many):
    """How many leaves there are, then how many branches of each level; the last number is of the file's own places."""
    sizes = [many]
    for level in range(height_of(many) - 1):
        sizes.append((sizes[-1] + BUNDLE - 1) // BUNDLE)
    return sizes


def folder_rows(content):
    """The pairs of a name's code and a place of a folder's block, in order."""
    return list(zip(content[1::2], content[2::2]))


def named_places(content):
    """The places of a folder's block by the names of its things, in order."""
    return {name_of(code): place for code, place in folder_rows(content)}


def folder_content(places):
    """The block of a folder with these places, a dict by the codes of their names."""
    content = [KINDS.index("folder")]
    for code in sorted(places):
        content.extend([code, places[code]])
    return tuple(content)


def file_content(many, places):
    """The block of a file with so many leaves and these places of its own."""
    return (KINDS.index("file"), many, *places)


def branch_content(places):
    """The block of a branch with these places."""
    return (KINDS.index("branch"), *places)


def leaf_content(leaf):
    """The block of a leaf."""
    return (KINDS.index("leaf"), *leaf)
