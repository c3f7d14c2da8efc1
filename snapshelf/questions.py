"""The lines that ask a shelf something."""

from snapshelf.diskcheck import disk_holds
from snapshelf.rows import entry_at
from snapshelf.sent import sent_of, written_sent
from snapshelf.things import room_of
from snapshelf.viewtexts import told_view
from snapshelf.walk import disk_paper


def told_names(shelf):
    """A line for each entry."""
    return "".join([f"{name} {kind} {last}\n" for name, kind, last in shelf.entries()])


def told_text(shelf, name):
    """The text of an entry's view."""
    return told_view(shelf.view(name))


def told_room(shelf, name):
    """The room of an entry's view."""
    return str(room_of(shelf.view(name)))


def told_alone(shelf, name):
    """How many places an entry alone holds."""
    return str(len(shelf.alone(name)))


def told_sent(shelf, first, second):
    """What is sent from one entry's view to another's."""
    # Lost is told behind the other refusals, so both names are looked up ahead of the views.
    for name in (first, second):
        entry_at(shelf.entries(), name)
    return written_sent(sent_of(shelf.view(first), shelf.view(second)))


def told_check(shelf):
    """Whether a paper of the disk holds with what the shelf tells."""
    if shelf.lost():
        return "wrong"
    blocks = shelf.blocks()
    roots = shelf.roots()
    holds = disk_holds(disk_paper(blocks, roots), blocks, roots, shelf.counts(), shelf.once())
    return "right" if holds else "wrong"


QUESTIONS = {
    "names": told_names,
    "tell": told_text,
    "room": told_room,
    "alone": told_alone,
    "sent": told_sent,
    "check": told_check,
}


def is_question(word):
    """Whether a line with that word asks a shelf something."""
    return word in QUESTIONS


def told_answer(shelf, asked):
    """The answer to what a line asks."""
    action = QUESTIONS[asked[0]]
    rest = asked[1:]
    return action(shelf, *rest)
