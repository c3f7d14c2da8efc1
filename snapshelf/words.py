"""Lines of text, read as what they ask: a row of a word and what stands behind it."""

from snapshelf.errors import NoName, NoSent, NoWord
from snapshelf.heads import MOST_BOUND
from snapshelf.names import is_name, read_path
from snapshelf.sent import read_deed
from snapshelf.values import read_number

DEED_WORDS = ("folder", "file", "put", "trim", "out", "move", "copy")
FORMS = {
    "house": ("name", "bound"),
    "snap": ("name", "name"),
    "back": ("name", "name"),
    "clone": ("name", "name", "bound"),
    "drop": ("name",),
    "rebound": ("name", "bound"),
    "names": (),
    "tell": ("name",),
    "room": ("name",),
    "alone": ("name",),
    "sent": ("name", "name"),
    "open": ("name", "path"),
    "read": ("number",),
    "close": ("number",),
    "check": (),
    "rot": ("copy", "number"),
    "again": (),
    "mend": (),
}
MOST_OF = {"number": 1000000, "copy": 1, "group": 2, "kept": 1000}
CHANGING = ("do", "house", "snap", "back", "clone", "drop", "rebound", "lay")


def read_line(line):
    """What the line asks; NoWord for whatever asks nothing.

    A deed is ("do", name, deed), what is laid ("lay", name, text), what is cut ("cut", group, kept, what is asked).
    """
    if not isinstance(line, str):
        raise NoWord()
    if line.startswith("cut "):
        return read_cut(line.removeprefix("cut "))
    return read_uncut(line)


def read_cut(text):
    """What a line asks that has this text behind its cut."""
    # A text without a ; has no line behind it, which asks nothing.
    numbers, bar, line = text.partition(" ; ")
    words = numbers.split(" ")
    group = read_part("group", words[0])
    kept = [read_part("kept", word) for word in words[1:]]
    if len(set(kept)) != len(kept):
        raise NoWord()
    asked = read_uncut(line)
    if asked[0] not in CHANGING:
        raise NoWord()
    return ("cut", group, tuple(kept), asked)


def read_uncut(line):
    """What a line without a cut asks."""
    words = line.split(" ")
    if words[0] == "lay":
        return read_lay(line.removeprefix("lay"))
    if words[0] in DEED_WORDS:
        return read_deed_line(words)
    if words[0] not in FORMS or len(FORMS[words[0]]) != len(words) - 1:
        raise NoWord()
    parts = [read_part(kind, word) for kind, word in zip(FORMS[words[0]], words[1:])]
    return (words[0], *parts)


def read_lay(text):
    """What a line asks that has this text behind its lay."""
    # The blanks ahead of the name and behind it are the line's; all others belong to the text that is laid.
    none, first, rest = text.partition(" ")
    name, second, laid = rest.partition(" ")
    if second == "":
        raise NoWord()
    return ("lay", read_part("name", name), laid)


def read_deed_line(words):
    """What a deed's line with these words asks."""
    try:
        deed = read_deed(" ".join([words[0], *words[2:]]))
    except NoSent:
        raise NoWord() from None
    return ("do", read_part("name", words[1]), deed)


def read_part(kind, word):
    """The name, path or number of that kind that the word writes, or NoWord."""
    if kind == "name":
        if not is_name(word):
            raise NoWord()
        return word
    if kind == "path":
        return read_inner_path(word)
    number = read_number(word, MOST_BOUND if kind == "bound" else MOST_OF[kind])
    if number is None or (kind == "bound" and number == 0):
        raise NoWord()
    return number


def read_inner_path(word):
    """The path of at least one name that the word writes, or NoWord."""
    try:
        path = read_path(word)
    except NoName:
        raise NoWord() from None
    if not path:
        raise NoWord()
    return path
