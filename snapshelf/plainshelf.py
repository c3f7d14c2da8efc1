"""A shelf that keeps its views by themselves, without a disk."""

from snapshelf.deeds import all_done
from snapshelf.errors import NoRoom
from snapshelf.rows import entry_at, house_at, refuse_new, snap_at
from snapshelf.things import EMPTY_VIEW, room_of, thing_at


def refuse_room(view, bound):
    """NoRoom, if the view is larger than the bound."""
    if room_of(view) > bound:
        raise NoRoom()


class PlainShelf:
    """Entries in the order in which they came: (name, kind, bound or house's name, view)."""

    def __init__(self):
        self.rows = []

    def house(self, name, bound):
        """A house with the empty view; Taken, TooMany."""
        refuse_new(self.rows, name)
        self.rows.append((name, "house", bound, EMPTY_VIEW))

    def do(self, name, deeds):
        """Deeds as one on a house's view; NoHouse, what they refuse, NoRoom."""
        at = house_at(self.rows, name)
        view = all_done(self.view_at(at), deeds)
        bound = self.rows[at][2]
        refuse_room(view, bound)
        self.rows[at] = (name, "house", bound, view)

    def snap(self, name, snap):
        """A snapshot of a house; NoHouse, Taken, TooMany."""
        at = house_at(self.rows, name)
        refuse_new(self.rows, snap)
        self.rows.append((snap, "snap", name, self.view_at(at)))

    def back(self, name, snap):
        """Let a house read as a snapshot; NoHouse, NoSnap, NoRoom."""
        at = house_at(self.rows, name)
        view = self.view_at(snap_at(self.rows, snap))
        bound = self.rows[at][2]
        refuse_room(view, bound)
        self.rows[at] = (name, "house", bound, view)

    def clone(self, snap, name, bound):
        """A house with a snapshot's view; NoSnap, Taken, TooMany, NoRoom."""
        view = self.view_at(snap_at(self.rows, snap))
        refuse_new(self.rows, name)
        refuse_room(view, bound)
        self.rows.append((name, "house", bound, view))

    def drop(self, name):
        """Let an entry go; NoEntry."""
        del self.rows[entry_at(self.rows, name)]

    def rebound(self, name, bound):
        """Give a house another bound; NoHouse, NoRoom."""
        at = house_at(self.rows, name)
        view = self.view_at(at)
        refuse_room(view, bound)
        self.rows[at] = (name, "house", bound, view)

    def view(self, name):
        """An entry's view; NoEntry."""
        return self.view_at(entry_at(self.rows, name))

    def thing(self, name, path):
        """The thing at a path of an entry's view, or None; NoEntry."""
        return thing_at(self.view(name), path)

    def entries(self):
        """The entries in order, without their views."""
        return [row[:3] for row in self.rows]

    def view_at(self, at):
        """The view of the entry with that number."""
        return self.rows[at][3]
