"""A desk: a disk, a shelf on it and its open files, by lines of text."""

from snapshelf.disk import Disk
from snapshelf.errors import NoDisk, NoWord, ShelfError
from snapshelf.holder import Holder
from snapshelf.linedeeds import change
from snapshelf.lostpaths import lost_paths
from snapshelf.mend import mended
from snapshelf.names import written_path
from snapshelf.opening import HEAD_SPOTS, begin, newest
from snapshelf.power import after_cut
from snapshelf.questions import is_question, told_answer
from snapshelf.shelf import Shelf
from snapshelf.steps import groups_of
from snapshelf.words import CHANGING, read_line


def open_file(desk, name, path):
    """The number of a file, open from now on."""
    return str(desk.holder.opened(name, path))


def read_file(desk, number):
    """A line for each leaf of an open file."""
    lines = [" ".join(["leaf", *[str(part) for part in leaf]]) + "\n" for leaf in desk.holder.leaves(number)]
    return "".join(lines)


def close_file(desk, number):
    """A file that is open no more."""
    desk.holder.closed(number)
    return "done"


def rot_cell(desk, copy, spot):
    """A cell of the disk that becomes None."""
    # Only the desk knows which spots its disk has.
    if spot >= HEAD_SPOTS + desk.disk.places:
        raise NoWord()
    desk.disk.rot(copy, spot, None)
    return "done"


def start_again(desk):
    """The shelf opened anew."""
    desk.start(desk.disk)
    return "done"


def mend_disk(desk):
    """The disk mended and the shelf opened anew: a line for each lost path."""
    mended(desk.disk)
    desk.start(desk.disk)
    return "".join([f"{name} {written_path(path)}\n" for name, path in lost_paths(desk.shelf)])


def cut_power(desk, group, kept, asked):
    """A change done with power cut in it, and the shelf opened anew."""
    shelf = desk.shelf
    ahead = shelf.generation()
    if newest(desk.disk)[0] != ahead:
        raise NoDisk()
    disk = desk.disk.twin()
    answer = change(shelf, asked)
    behind = shelf.generation()
    if behind == ahead:
        return answer
    many = len(groups_of(shelf.steps())[group])
    desk.start(after_cut(disk, shelf.steps(), group, [number for number in kept if number < many]))
    return "behind" if desk.shelf.generation() == behind else "ahead"


ACTIONS = {
    "open": open_file,
    "read": read_file,
    "close": close_file,
    "rot": rot_cell,
    "again": start_again,
    "mend": mend_disk,
    "cut": cut_power,
}


def answered(desk, asked):
    """The answer to what a line asks, or a refusal."""
    if asked[0] in CHANGING:
        return change(desk.shelf, asked)
    if is_question(asked[0]):
        return told_answer(desk.shelf, asked)
    action = ACTIONS[asked[0]]
    rest = asked[1:]
    return action(desk, *rest)


class Desk:
    """A disk of its own, begun, with a shelf and a holder."""

    def __init__(self, places, once):
        disk = Disk(places)
        begin(disk, once)
        self.start(disk)

    def say(self, line):
        """The answer to a line, whatever is handed in."""
        try:
            return answered(self, read_line(line))
        except ShelfError as refused:
            return "no " + str(refused)

    def start(self, disk):
        """Open the shelf anew on the disk; NoDisk, and then all is as it was."""
        shelf = Shelf(disk)
        self.disk = disk
        self.shelf = shelf
        self.holder = Holder(shelf)
