"""Views told by lines of text, and read from them."""

from snapshelf.deeds import all_done
from snapshelf.errors import NoView, ShelfError
from snapshelf.names import read_path, written_path
from snapshelf.things import EMPTY_VIEW, is_folder, paths_of, thing_at
from snapshelf.values import read_number


def told_view(view):
    """The text that tells the view, a line for each of its paths."""
    return "".join(told_line(path, thing_at(view, path)) for path in paths_of(view))


def told_line(path, thing):
    """The line of the thing at the path, with its line feed."""
    words = [thing[0], written_path(path)]
    if not is_folder(thing):
        for leaf in thing[1]:
            words.append("leaf")
            words.extend([str(number) for number in leaf])
    return " ".join(words) + "\n"


def read_view(text):
    """The view that the text tells; NoView for whatever tells none."""
    if not isinstance(text, str):
        raise NoView()
    try:
        view = all_done(EMPTY_VIEW, deeds_of_text(text))
    except ShelfError:
        raise NoView() from None
    # The deeds keep all bounds, but they would also be done with the lines in another order.
    if told_view(view) != text:
        raise NoView()
    return view


def deeds_of_text(text):
    """The deeds that make, on the empty view, what the lines tell."""
    lines = text.split("\n")
    if lines[-1] != "":
        raise NoView()
    deeds = []
    for line in lines[:-1]:
        deeds.extend(deeds_of_line(line))
    return deeds


def deeds_of_line(line):
    """The deeds that make what one line tells."""
    words = line.split(" ")
    if len(words) < 2 or words[0] not in ("folder", "file") or (words[0] == "folder" and len(words) > 2):
        raise NoView()
    path = read_path(words[1])
    deeds = [(words[0], path)]
    for at, leaf in enumerate(read_leaves(words[2:])):
        deeds.append(("put", path, at, leaf))
    return deeds


def read_leaves(words):
    """The leaves that the words behind a file's path tell."""
    leaves = []
    for word in words:
        if word == "leaf":
            leaves.append(())
            continue
        number = read_number(word, 255)
        if number is None or not leaves:
            raise NoView()
        leaves[-1] = (*leaves[-1], number)
    return leaves
