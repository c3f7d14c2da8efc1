"""The checker of what is sent."""

from snapshelf.deeds import all_done
from snapshelf.errors import ShelfError
from snapshelf.sent import is_sent
from snapshelf.tally import tally_of


def sent_holds(sent, first, second):
    """Whether it, whatever is handed in, is sent from the first view to the second."""
    if not is_sent(sent) or sent[1] != tally_of(first) or sent[3] != tally_of(second):
        return False
    try:
        behind = all_done(first, list(sent[2]))
    except ShelfError:
        return False
    return behind == second
