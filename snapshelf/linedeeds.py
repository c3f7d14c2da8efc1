"""The lines that change a shelf."""

from snapshelf.errors import NoSent
from snapshelf.laying import lay
from snapshelf.sent import read_sent


def do_deed(shelf, name, deed):
    """One deed on a house."""
    shelf.do(name, [deed])


def make_house(shelf, name, bound):
    """A house."""
    shelf.house(name, bound)


def take_snap(shelf, name, snap):
    """A snapshot of a house."""
    shelf.snap(name, snap)


def go_back(shelf, name, snap):
    """A house back to a snapshot."""
    shelf.back(name, snap)


def make_clone(shelf, snap, name, bound):
    """A house of a snapshot."""
    shelf.clone(snap, name, bound)


def drop_entry(shelf, name):
    """An entry dropped."""
    shelf.drop(name)


def set_bound(shelf, name, bound):
    """Another bound for a house."""
    shelf.rebound(name, bound)


def lay_text(shelf, name, text):
    """What the text writes laid on a house."""
    try:
        sent = read_sent(text)
    except NoSent:
        # Laying refuses it in its turn, behind what it tells first.
        sent = None
    lay(shelf, name, sent)


CHANGES = {
    "do": do_deed,
    "house": make_house,
    "snap": take_snap,
    "back": go_back,
    "clone": make_clone,
    "drop": drop_entry,
    "rebound": set_bound,
    "lay": lay_text,
}


def change(shelf, asked):
    """Change the shelf as a line asks, and tell the line's answer."""
    action = CHANGES[asked[0]]
    rest = asked[1:]
    action(shelf, *rest)
    return "done"
