"""A shelf on a disk: entries on blocks, with deeds that write new blocks and switch the root at last."""

from snapshelf.blocks import kind_of, named_places
from snapshelf.changing import all_changed
from snapshelf.counts import counts_of
from snapshelf.errors import Full, Lost, NoRoom, NoThing
from snapshelf.making import made
from snapshelf.opening import newest
from snapshelf.reading import reached
from snapshelf.room import frees
from snapshelf.rows import entry_at, house_at, refuse_new, snap_at, with_row
from snapshelf.steps import do_steps
from snapshelf.stock import Stock
from snapshelf.switching import next_generation, switch_steps
from snapshelf.things import EMPTY_VIEW
from snapshelf.trees import block_at, come_to, room_at, thing_of

MOST_NEW = 16


class Shelf:
    """Entries in the order in which they came: (name, kind, place, bound or house's name)."""

    def __init__(self, disk):
        generation, once, rows, counts = newest(disk)
        self.disk = disk
        self.number = generation
        self.single = once
        self.rows = rows
        self.ledger = counts
        self.memory, self.unread = reached(disk, self.roots())
        self.last_steps = []
        self.holds = {}
        self.held = {}

    def house(self, name, bound):
        """A house with the empty view; Lost, Taken, TooMany, Full."""
        self.refuse_hurt()
        refuse_new(self.rows, name)
        stock = self.stock(1)
        place = made(stock, EMPTY_VIEW)
        self.switch([*self.rows, (name, "house", place, bound)], stock.new())

    def do(self, name, deeds):
        """Deeds as one on a house's view; Lost, NoHouse, what they refuse, NoRoom, Full."""
        self.refuse_hurt()
        at = house_at(self.rows, name)
        stock = self.stock(len(deeds))
        place = all_changed(stock, self.place(at), deeds)
        bound = self.rows[at][3]
        refuse_room(stock.memory, place, bound)
        self.switch(with_row(self.rows, at, (name, "house", place, bound)), stock.new())

    def snap(self, name, snap):
        """A snapshot of a house; Lost, NoHouse, Taken, TooMany."""
        self.refuse_hurt()
        at = house_at(self.rows, name)
        refuse_new(self.rows, snap)
        self.switch([*self.rows, (snap, "snap", self.place(at), name)], {})

    def back(self, name, snap):
        """Let a house read as a snapshot; Lost, NoHouse, NoSnap, NoRoom."""
        self.refuse_hurt()
        at = house_at(self.rows, name)
        place = self.place(snap_at(self.rows, snap))
        bound = self.rows[at][3]
        refuse_room(self.memory, place, bound)
        self.switch(with_row(self.rows, at, (name, "house", place, bound)), {})

    def clone(self, snap, name, bound):
        """A house with a snapshot's view; Lost, NoSnap, Taken, TooMany, NoRoom."""
        self.refuse_hurt()
        place = self.place(snap_at(self.rows, snap))
        refuse_new(self.rows, name)
        refuse_room(self.memory, place, bound)
        self.switch([*self.rows, (name, "house", place, bound)], {})

    def drop(self, name):
        """Let an entry go; Lost, NoEntry."""
        self.refuse_hurt()
        at = entry_at(self.rows, name)
        self.switch([*self.rows[:at], *self.rows[at + 1:]], {})

    def rebound(self, name, bound):
        """Give a house another bound; Lost, NoHouse, NoRoom."""
        self.refuse_hurt()
        at = house_at(self.rows, name)
        place = self.place(at)
        refuse_room(self.memory, place, bound)
        self.switch(with_row(self.rows, at, (name, "house", place, bound)), {})

    def view(self, name):
        """An entry's view; NoEntry, Lost."""
        return thing_of(self.memory, self.place(entry_at(self.rows, name)))

    def thing(self, name, path):
        """The thing at a path of an entry's view, or None; NoEntry, Lost."""
        place = self.find_place(entry_at(self.rows, name), path)
        return None if place is None else thing_of(self.memory, place)

    def entries(self):
        """The entries in order, without their places."""
        return [(name, kind, last) for name, kind, place, last in self.rows]

    def steps(self):
        """The steps of the last deed that did some."""
        return list(self.last_steps)

    def generation(self):
        """The generation of the root in force."""
        return self.number

    def roots(self):
        """The places of the entries, in their order."""
        return [row[2] for row in self.rows]

    def counts(self):
        """How often each place hangs, from 0 to the last."""
        return list(self.ledger)

    def blocks(self):
        """The blocks that hang, as far as they could be read."""
        return {place: self.memory[place] for place in self.memory}

    def once(self):
        """Whether blocks are kept once."""
        return self.single

    def lost(self):
        """The places that couldn't be read when the shelf was opened, rising."""
        return list(self.unread)

    def free(self):
        """How many places neither hang nor are held."""
        return self.disk.places - len(self.used_places())

    def alone(self, name):
        """The places that come free with an entry, rising; NoEntry, Lost."""
        at = entry_at(self.rows, name)
        self.refuse_hurt()
        return frees(self.memory, self.roots(), [at])

    def hold(self, name, path):
        """Hold the file at a path of an entry, and tell its place; NoEntry, NoThing, Lost."""
        at = entry_at(self.rows, name)
        # A view is a folder, also where its block can't be read.
        place = self.find_place(at, path) if path else None
        if place is None or kind_of(block_at(self.memory, place)) != "file":
            raise NoThing()
        # A file that can't be read as a whole isn't held.
        thing_of(self.memory, place)
        for each in come_to(self.memory, [place]):
            self.held[each] = self.memory[each]
        self.holds[place] = self.holds.get(place, 0) + 1
        return place

    def let_hold(self, place):
        """Hold the file at the place once less."""
        many = self.holds.pop(place, 0) - 1
        if many > 0:
            self.holds[place] = many
        self.held = {each: self.held[each] for each in come_to(self.held, list(self.holds))}

    def held_thing(self, place):
        """The file that is held at the place."""
        return thing_of(self.held, place)

    def refuse_hurt(self):
        """Lost, if a block couldn't be read when the shelf was opened."""
        if self.unread:
            raise Lost()

    def place(self, at):
        """The place of the entry with that number."""
        return self.rows[at][2]

    def find_place(self, at, path):
        """The place of the thing at a path of the entry with that number, or None; Lost."""
        place = self.place(at)
        for name in path:
            content = block_at(self.memory, place)
            if kind_of(content) != "folder":
                return None
            inner = named_places(content)
            if name not in inner:
                return None
            place = inner[name]
        return place

    def used_places(self):
        """The places that hang or are held."""
        return [place for place in range(1, self.disk.places + 1) if self.ledger[place] != 0 or place in self.held]

    def stock(self, many):
        """A stock of the blocks that hang, with places enough for so many deeds.

        It has places beyond the disk's last one, since Full is told behind all that the deeds refuse.
        What is held and doesn't hang is no block of it: such a block could hang again only if it were put again.
        """
        return Stock(self.memory, self.disk.places + many * MOST_NEW, self.used_places(), self.single)

    def switch(self, rows, fresh):
        """Make these rows the entries, with these new blocks, on the disk and here; Full."""
        if any(place > self.disk.places for place in fresh):
            raise Full()
        if rows == self.rows:
            return
        blocks = {**self.memory, **fresh}
        roots = [row[2] for row in rows]
        counts = counts_of(blocks, roots, self.disk.places)
        generation = next_generation(self.disk, self.number)
        steps = switch_steps(generation, self.single, rows, counts, fresh)
        do_steps(self.disk, steps)
        self.number = generation
        self.rows = rows
        self.ledger = counts
        self.memory = {place: blocks[place] for place in come_to(blocks, roots)}
        self.last_steps = steps


def refuse_room(blocks, place, bound):
    """NoRoom, if the view at the place is larger than the bound."""
    if room_at(blocks, place) > bound:
        raise NoRoom()
