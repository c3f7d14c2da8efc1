"""A shelf that keeps its views by themselves, without a disk."""

from snapshelf.deeds import all_done
from snapshelf.errors import NoEntry, NoHouse, NoRoom, NoSnap, Taken, TooMany
from snapshelf.things import EMPTY_VIEW, room_of, thing_at

MOST_ENTRIES = 12


def refuse_room(view, bound):
    """NoRoom, if the view is larger than the bound."""
    if room_of(view) > bound:
        raise NoRoom()


class PlainShelf:
    """Entries in the order in which they came: (name, kind, bound or house's name, view)."""

    def __init__(self):
        self.rows = []

    def house(self, name, bound):
        """A house with the empty view; Taken, TooMany."""
        self.refuse_new(name)
        self.rows.append((name, "house", bound, EMPTY_VIEW))

    def do(self, name, deeds):
        """Deeds as one on a house's view; NoHouse, what they refuse, NoRoom."""
        at = self.house_at(name)
        view = all_done(self.view_at(at), deeds)
        bound = self.rows[at][2]
        refuse_room(view, bound)
        self.rows[at] = (name, "house", bound, view)

    def snap(self, name, snap):
        """A snapshot of a house; NoHouse, Taken, TooMany."""
        at = self.house_at(name)
        self.refuse_new(snap)
        self.rows.append((snap, "snap", name, self.view_at(at)))

    def back(self, name, snap):
        """Let a house read as a snapshot; NoHouse, NoSnap, NoRoom."""
        at = self.house_at(name)
        view = self.view_at(self.snap_at(snap))
        bound = self.rows[at][2]
        refuse_room(view, bound)
        self.rows[at] = (name, "house", bound, view)

    def clone(self, snap, name, bound):
        """A house with a snapshot's view; NoSnap, Taken, TooMany, NoRoom."""
        view = self.view_at(self.snap_at(snap))
        self.refuse_new(name)
        refuse_room(view, bound)
        self.rows.append((name, "house", bound, view))

    def drop(self, name):
        """Let an entry go; NoEntry."""
        del self.rows[self.entry_at(name)]

    def rebound(self, name, bound):
        """Give a house another bound; NoHouse, NoRoom."""
        at = self.house_at(name)
        view = self.view_at(at)
        refuse_room(view, bound)
        self.rows[at] = (name, "house", bound, view)

    def view(self, name):
        """An entry's view; NoEntry."""
        return self.view_at(self.entry_at(name))

    def thing(self, name, path):
        """The thing at a path of an entry's view, or None; NoEntry."""
        return thing_at(self.view(name), path)

    def entries(self):
        """The entries in order, without their views."""
        return [row[:3] for row in self.rows]

    def refuse_new(self, name):
        """Taken or TooMany, if no entry with that name can come."""
        if self.find_entry(name) is not None:
            raise Taken()
        if len(self.rows) >= MOST_ENTRIES:
            raise TooMany()

    def find_entry(self, name):
        """The number of the entry with that name, or None."""
        for at, row in enumerate(self.rows):
            if row[0] == name:
                return at
        return None

    def entry_at(self, name):
        """The number of the entry with that name, or NoEntry."""
        at = self.find_entry(name)
        if at is None:
            raise NoEntry()
        return at

    def house_at(self, name):
        """The number of the house with that name, or NoHouse."""
        at = self.find_entry(name)
        if at is None or self.rows[at][1] != "house":
            raise NoHouse()
        return at

    def snap_at(self, name):
        """The number of the snapshot with that name, or NoSnap."""
        at = self.find_entry(name)
        if at is None or self.rows[at][1] != "snap":
            raise NoSnap()
        return at

    def view_at(self, at):
        """The view of the entry with that number."""
        return self.rows[at][3]
