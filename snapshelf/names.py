"""Names and their codes, paths and how they are written."""

from snapshelf.errors import NoName
from snapshelf.values import is_number

LETTERS = "abcdefghijklmnopqrstuvwxyz"
LONGEST_NAME = 8
LONGEST_PATH = 6


def is_name(one):
    """Whether it is a name, whatever is handed in."""
    if not isinstance(one, str) or not 1 <= len(one) <= LONGEST_NAME:
        return False
    return all(sign in LETTERS for sign in one)


def code_of(name):
    """The name's code; NoName for whatever is no name."""
    if not is_name(name):
        raise NoName()
    code = 0
    for letter in name:
        code = code * 27 + LETTERS.index(letter) + 1
    return code


def rank_of(name):
    """What names are sorted by."""
    # A longer name's code is always the greater one, so this is the order of the codes.
    return (len(name), name)


def name_of(code):
    """The name with that code; NoName for whatever is no name's code."""
    if not is_number(code) or not 0 < code < 27 ** 8:
        raise NoName()
    letters = []
    left = code
    while left > 0:
        left, number = divmod(left, 27)
        # No letter has the number 0, so a code with this digit is no name's.
        if number == 0:
            raise NoName()
        letters.append(LETTERS[number - 1])
    return "".join(reversed(letters))


def is_path(one):
    """Whether it is a path, whatever is handed in."""
    return isinstance(one, tuple) and len(one) <= LONGEST_PATH and all(is_name(name) for name in one)


def written_path(path):
    """The path as a text, with / between its names."""
    return "/".join(path)


def read_path(text):
    """The path that the text writes; NoName for whatever writes none."""
    if not isinstance(text, str):
        raise NoName()
    # Splitting the text without signs would give one empty name instead of none.
    path = tuple(text.split("/")) if text else ()
    if not is_path(path):
        raise NoName()
    return path
