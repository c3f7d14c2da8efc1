"""What is sent, laid on a house."""

from snapshelf.deeds import all_done
from snapshelf.errors import Lost, NoSent, Other, ShelfError
from snapshelf.rows import house_at
from snapshelf.sent import is_sent
from snapshelf.shelf import Shelf
from snapshelf.tally import tally_of


def lay(shelf, name, sent):
    """Lay what is sent on a house of a shelf of either kind; Lost, NoHouse, NoSent, Other, NoRoom, Full."""
    if isinstance(shelf, Shelf) and shelf.lost():
        raise Lost()
    house_at(shelf.entries(), name)
    if not is_sent(sent):
        raise NoSent()
    word, first, deeds, second = sent
    view = shelf.view(name)
    if tally_of(view) != first or tally_of(view_behind(view, deeds)) != second:
        raise Other()
    shelf.do(name, list(deeds))


def view_behind(view, deeds):
    """The view behind the deeds, or Other where one is refused."""
    try:
        return all_done(view, list(deeds))
    except ShelfError:
        raise Other() from None
