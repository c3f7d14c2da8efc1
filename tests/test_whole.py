"""The promise of the whole (1, 2, 3), and lists of 1000 deeds (8)."""

import unittest

from helper import (
    EMPTY, WHATEVER, all_told, ask, begun, both_asked, cells, long_row, plain_twin, refusal, some_call, told, walked,
)
from snapshelf.deeds import all_done
from snapshelf.desk import Desk
from snapshelf.diskcheck import disk_holds
from snapshelf.laying import lay
from snapshelf.lostpaths import lost_paths
from snapshelf.mend import cells_of, mended, spots_in_use
from snapshelf.mendcheck import mend_holds
from snapshelf.plainshelf import PlainShelf
from snapshelf.power import after_cut
from snapshelf.room import room_paper
from snapshelf.roomcheck import room_holds
from snapshelf.sent import read_sent, sent_of, written_sent
from snapshelf.sentcheck import sent_holds
from snapshelf.shelf import Shelf
from snapshelf.steps import groups_of
from snapshelf.walk import disk_paper


def thousand():
    """A list of 1000 deeds of all seven kinds, all done on the empty view."""
    deeds = []
    for name in "abcdef":
        deeds += [("folder", (name,)), ("file", (name, "x"))] + [("put", (name, "x"), at, (at, ord(name))) for at in range(30)]
    number = 0
    while len(deeds) < 990:
        name = "abcdef"[number % 6]
        deeds += [
            ("copy", (name, "x"), (name, "y")), ("put", (name, "y"), number % 30, (number % 256, 1)), ("trim", (name, "y"), 29),
            ("out", (name, "x")), ("move", (name, "y"), (name, "x")), ("put", (name, "x"), 29, (number % 256,)),
        ]
        number += 1
    return deeds + [("folder", ("g",))] + [("put", ("a", "x"), 0, (at,)) for at in range(1000 - len(deeds) - 1)]


class ThousandDeedsTest(unittest.TestCase):

    def setUp(self):
        self.deeds = thousand()
        self.assertEqual(len(self.deeds), 1000)
        self.view = all_done(EMPTY, self.deeds)

    def shelves(self):
        some = [PlainShelf(), Shelf(begun(400, True)), Shelf(begun(400, False))]
        for shelf in some:
            shelf.house("h", 500)
        return some

    def test_as_one(self):
        view = EMPTY
        for deed in self.deeds:
            view = all_done(view, [deed])
        self.assertEqual(self.view, view)
        for shelf in self.shelves():
            shelf.do("h", self.deeds)
            self.assertEqual(shelf.view("h"), self.view)

    def test_the_last_one_refused_refuses_all(self):
        deeds = self.deeds[:-1]
        for last, why in ((("out", ("q",)), "NoThing"), (("folder", ("a",)), "Taken"), (None, "NoDeed")):
            self.assertEqual(refusal(all_done, EMPTY, deeds + [last]), why)
            for shelf in self.shelves():
                ahead = cells(shelf.disk) if isinstance(shelf, Shelf) else None
                self.assertEqual(ask(shelf, ("do", "h", deeds + [last])), why)
                self.assertEqual(shelf.view("h"), EMPTY)
                self.assertEqual(cells(shelf.disk) if isinstance(shelf, Shelf) else None, ahead)

    def test_no_deed_at_the_end_ahead_of_a_refusal_at_the_beginning(self):
        for one in WHATEVER:
            deeds = [("out", ("q",))] + self.deeds[:998] + [one]
            self.assertEqual(refusal(all_done, EMPTY, deeds), "NoDeed")
            self.assertEqual(ask(self.shelves()[1], ("do", "h", deeds)), "NoDeed")

    def test_laid(self):
        sent = ("sent", 1, tuple(self.deeds), sent_of(self.view, self.view)[1])
        self.assertTrue(sent_holds(sent, EMPTY, self.view))
        for shelf in self.shelves():
            lay(shelf, "h", read_sent(written_sent(sent)))
            self.assertEqual(shelf.view("h"), self.view)

    def test_by_a_line(self):
        desk = Desk(400, True)
        desk.say("house h 500")
        line = "lay h " + written_sent(("sent", 1, tuple(self.deeds), sent_of(self.view, self.view)[1]))
        self.assertEqual(desk.say("cut 2 1 ; " + line), "behind")
        self.assertEqual((desk.shelf.view("h"), desk.say("check")), (self.view, "right"))


class PromiseTest(unittest.TestCase):

    def check_papers(self, shelf):
        """Counts, papers and what comes free are so, by walking from the roots."""
        blocks, roots, counts = shelf.blocks(), shelf.roots(), shelf.counts()
        hangers = walked(blocks, roots)
        self.assertEqual(counts, [len(hangers.get(place, ())) for place in range(len(counts))])
        self.assertTrue(disk_holds(disk_paper(blocks, roots), blocks, roots, counts, shelf.once()))
        for at, entry in enumerate(shelf.entries()):
            paper = room_paper(blocks, roots, [at])
            self.assertTrue(room_holds(paper, blocks, roots, counts, [at]))
            self.assertEqual(sorted(row[0] for row in paper if row[2] == ()), shelf.alone(entry[0]))

    def test_snapshots_read_as_at_their_taking(self):
        for seed in range(4):
            source, shelf, plain = long_row(seed, 200, 0)
            taken = {}
            for number in range(150):
                call = some_call(source, plain)
                if both_asked(shelf, plain, call)[0] is None:
                    if call[0] == "snap":
                        taken[call[2]] = plain.view(call[1])
                    if call[0] == "drop":
                        taken.pop(call[1], None)
                    if call[0] == "back":
                        self.assertEqual(shelf.view(call[1]), taken[call[2]])
                for name in taken:
                    self.assertEqual(shelf.view(name), taken[name])
            self.check_papers(shelf)

    def test_cut_rot_mend_and_on(self):
        for seed in range(4):
            source, shelf, plain = long_row(seed, 150, 30)
            for number in range(40):
                self.rot_some(source, shelf.disk)
                disk, was, generation = shelf.disk.twin(), plain_twin(plain), shelf.generation()
                both_asked(shelf, plain, some_call(source, plain))
                if shelf.generation() != generation:
                    group = source.randrange(3)
                    many = len(groups_of(shelf.steps())[group])
                    disk = after_cut(disk, shelf.steps(), group, source.sample(range(many), source.randint(0, many)))
                    plain = plain if Shelf(disk).generation() == shelf.generation() else was
                else:
                    disk = shelf.disk
                spots, ahead = spots_in_use(disk), cells_of(disk)
                paper = mended(disk)
                self.assertTrue(mend_holds(paper, ahead, cells_of(disk), spots))
                shelf = Shelf(disk)
                self.assertEqual((told(shelf), lost_paths(shelf)), (told(plain), []))
                self.check_papers(shelf)

    def rot_some(self, source, disk):
        """Let one copy of each of some spots in use rot, where both are whole."""
        for spot, content in spots_in_use(disk):
            if source.random() < 0.3 and disk.look(0, spot) == disk.look(1, spot):
                disk.rot(source.randrange(2), spot, source.choice((None, 1, "x", (1, (2, 3)), (True, [0]))))

    def test_what_is_asked_again_is_answered_with_the_same(self):
        source, shelf, plain = long_row(3, 100, 60)
        self.assertEqual(all_told(shelf), all_told(shelf))
        self.assertEqual(told(shelf), told(shelf))
        for entry in shelf.entries():
            self.assertEqual(shelf.alone(entry[0]), shelf.alone(entry[0]))
        self.assertEqual(spots_in_use(shelf.disk), spots_in_use(shelf.disk))
        desk = Desk(20, True)
        for line in ("house h 5", "folder h a"):
            desk.say(line)
        for line in ("names", "tell h", "room h", "alone h", "sent h h", "check", "read 1", "x"):
            self.assertEqual(desk.say(line), desk.say(line))


if __name__ == "__main__":
    unittest.main()
