"""The refusals: one class for each, all under ShelfError and none under another; each one's message is its name."""


class ShelfError(ValueError):
    """Whatever a shelf or one of its parts refuses."""


class NoName(ShelfError):
    """No name, no name's code, or no written path."""

    def __init__(self):
        super().__init__("NoName")


class NoView(ShelfError):
    """A text that tells no view."""

    def __init__(self):
        super().__init__("NoView")


class NoDeed(ShelfError):
    """Something that is no deed."""

    def __init__(self):
        super().__init__("NoDeed")


class NoThing(ShelfError):
    """Where a thing, a file or a folder is needed there is none."""

    def __init__(self):
        super().__init__("NoThing")


class Taken(ShelfError):
    """Something is there already."""

    def __init__(self):
        super().__init__("Taken")


class TooMany(ShelfError):
    """A folder or a shelf is full by number."""

    def __init__(self):
        super().__init__("TooMany")


class TooDeep(ShelfError):
    """A path would have more than six names."""

    def __init__(self):
        super().__init__("TooDeep")


class Within(ShelfError):
    """A thing would be moved into itself."""

    def __init__(self):
        super().__init__("Within")


class NoLeaf(ShelfError):
    """A file has no such leaf and can't have it."""

    def __init__(self):
        super().__init__("NoLeaf")


class NoRoom(ShelfError):
    """A view is larger than its house's bound."""

    def __init__(self):
        super().__init__("NoRoom")


class NoHouse(ShelfError):
    """No house has that name."""

    def __init__(self):
        super().__init__("NoHouse")


class NoSnap(ShelfError):
    """No snapshot has that name."""

    def __init__(self):
        super().__init__("NoSnap")


class NoEntry(ShelfError):
    """No entry has that name."""

    def __init__(self):
        super().__init__("NoEntry")


class Full(ShelfError):
    """No place is left."""

    def __init__(self):
        super().__init__("Full")


class Lost(ShelfError):
    """A block can't be read."""

    def __init__(self):
        super().__init__("Lost")


class NoDisk(ShelfError):
    """A disk has no root."""

    def __init__(self):
        super().__init__("NoDisk")


class NoSent(ShelfError):
    """Something that isn't what is sent."""

    def __init__(self):
        super().__init__("NoSent")


class Other(ShelfError):
    """What is sent is for another view."""

    def __init__(self):
        super().__init__("Other")


class NotOpen(ShelfError):
    """No file is held under that number."""

    def __init__(self):
        super().__init__("NotOpen")


class NoWord(ShelfError):
    """A line that asks nothing."""

    def __init__(self):
        super().__init__("NoWord")
