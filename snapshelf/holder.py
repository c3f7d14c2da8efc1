"""Open files of a shelf."""

from snapshelf.errors import NotOpen


class Holder:
    """Places of held files by the numbers under which they are open."""

    def __init__(self, shelf):
        self.shelf = shelf
        self.numbers = {}
        self.next_number = 1

    def opened(self, name, path):
        """The number of the file at a path of an entry, open from now on; NoEntry, NoThing, Lost."""
        place = self.shelf.hold(name, path)
        number = self.next_number
        self.numbers[number] = place
        self.next_number += 1
        return number

    def leaves(self, number):
        """The leaves of the file as they were when it was opened; NotOpen."""
        return self.shelf.held_thing(self.held_place(number))[1]

    def closed(self, number):
        """Let the file be open no more; NotOpen."""
        self.shelf.let_hold(self.held_place(number))
        del self.numbers[number]

    def held_place(self, number):
        """The place of the file that is open under the number, or NotOpen."""
        if number not in self.numbers:
            raise NotOpen()
        return self.numbers[number]
