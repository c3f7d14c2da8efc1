"""The refusals: one class for each, all under ShelfError and none under another."""


class ShelfError(ValueError):
    """Whatever a shelf or one of its parts refuses."""


class NoName(ShelfError):
    """No name, no name's code, or no written path."""


class NoView(ShelfError):
    """A text that tells no view."""


class NoDeed(ShelfError):
    """Something that is no deed."""


class NoThing(ShelfError):
    """Where a thing, a file or a folder is needed there is none."""


class Taken(ShelfError):
    """Something is there already."""


class TooMany(ShelfError):
    """A folder or a shelf is full by number."""


class TooDeep(ShelfError):
    """A path would have more than six names."""


class Within(ShelfError):
    """A thing would be moved into itself."""


class NoLeaf(ShelfError):
    """A file has no such leaf and can't have it."""


class NoRoom(ShelfError):
    """A view is larger than its house's bound."""


class NoHouse(ShelfError):
    """No house has that name."""


class NoSnap(ShelfError):
    """No snapshot has that name."""


class NoEntry(ShelfError):
    """No entry has that name."""


class Full(ShelfError):
    """No place is left."""


class Lost(ShelfError):
    """A block can't be read."""


class NoDisk(ShelfError):
    """A disk has no root."""


class NoSent(ShelfError):
    """Something that isn't what is sent."""


class Other(ShelfError):
    """What is sent is for another view."""


class NotOpen(ShelfError):
    """No file is held under that number."""


class NoWord(ShelfError):
    """A line that asks nothing."""
