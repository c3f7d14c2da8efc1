"""What is sent, laid on a house (33)."""

import unittest

from helper import EMPTY, WHATEVER, all_told, begun, cells, file, file_deeds, folder, long_row, refusal, shelf_with, spoil, told
from snapshelf.deeds import all_done
from snapshelf.laying import lay
from snapshelf.plainshelf import PlainShelf
from snapshelf.sent import read_sent, sent_of, written_sent
from snapshelf.shelf import Shelf
from snapshelf.tally import tally_of

FIRST = folder(a=file((1,), (2,)), c=EMPTY)
SECOND = folder(a=file((9,)), b=folder(a=file((3,))))
MAKE_FIRST = [("file", ("a",)), ("put", ("a",), 0, (1,)), ("put", ("a",), 1, (2,)), ("folder", ("c",))]


def shelves():
    """Shelves of either kind with a house that reads as FIRST."""
    some = [PlainShelf(), Shelf(begun(40, True)), Shelf(begun(40, False))]
    for shelf in some:
        shelf.house("h", 50)
        shelf.do("h", MAKE_FIRST)
        shelf.snap("h", "s")
    return some


class LayTest(unittest.TestCase):

    def refused(self, shelf, why, name, sent):
        """It is refused so, and nothing changes."""
        on_disk = isinstance(shelf, Shelf)
        ahead = (told(shelf), all_told(shelf) if on_disk else None, cells(shelf.disk) if on_disk else None)
        self.assertEqual(refusal(lay, shelf, name, sent), why)
        self.assertEqual((told(shelf), all_told(shelf) if on_disk else None, cells(shelf.disk) if on_disk else None), ahead)

    def test_done(self):
        sent = sent_of(FIRST, SECOND)
        for shelf in shelves():
            self.assertEqual(shelf.view("h"), FIRST)
            self.assertIsNone(lay(shelf, "h", sent))
            self.assertEqual((shelf.view("h"), shelf.view("s")), (SECOND, FIRST))
            self.assertIsNone(lay(shelf, "h", read_sent(written_sent(sent_of(SECOND, FIRST)))))
            self.assertEqual(shelf.view("h"), FIRST)

    def test_as_one(self):
        shelf = shelves()[1]
        lay(shelf, "h", sent_of(FIRST, SECOND))
        self.assertEqual(shelf.generation(), 5)
        self.assertEqual(told(Shelf(shelf.disk)), told(shelf))
        lay(shelf, "h", sent_of(SECOND, SECOND))
        self.assertEqual(shelf.generation(), 5)

    def test_whatever_it_was_written_by(self):
        deeds = (("move", ("a",), ("c", "a")), ("out", ("c",)), ("file", ("q",)))
        behind = all_done(FIRST, list(deeds))
        for shelf in shelves():
            lay(shelf, "h", ("sent", tally_of(FIRST), deeds, tally_of(behind)))
            self.assertEqual(shelf.view("h"), behind)

    def test_no_house(self):
        for shelf in shelves():
            for name in ("s", "x", "hh"):
                self.refused(shelf, "NoHouse", name, sent_of(FIRST, SECOND))
                self.refused(shelf, "NoHouse", name, None)

    def test_no_sent(self):
        word, first, deeds, second = sent_of(FIRST, SECOND)
        for shelf in shelves():
            for sent in WHATEVER + (
                (), written_sent((word, first, deeds, second)), [word, first, deeds, second], (word, first, list(deeds), second),
                (word, first, deeds * 300, second), (word, first + 2 ** 61, deeds, second), (word, 5, (("out", ()),), second),
            ):
                self.refused(shelf, "NoSent", "h", sent)

    def test_other(self):
        word, first, deeds, second = sent_of(FIRST, SECOND)
        for shelf in shelves():
            self.refused(shelf, "Other", "h", (word, first + 1, deeds, second))
            self.refused(shelf, "Other", "h", (word, first, deeds, second + 1))
            self.refused(shelf, "Other", "h", (word, first, deeds[:-1], second))
            self.refused(shelf, "Other", "h", (word, first, deeds + (("out", ("q",)),), second))
            self.refused(shelf, "Other", "h", (word, first, (("file", ("a",)),) + deeds, second))
            self.refused(shelf, "Other", "h", sent_of(SECOND, FIRST))
            self.refused(shelf, "Other", "h", sent_of(EMPTY, FIRST))
            shelf.do("h", [("put", ("a",), 0, (7,))])
            self.refused(shelf, "Other", "h", (word, first, deeds, second))

    def test_no_room(self):
        large = folder(a=file(*[(at,) for at in range(60)]))
        for shelf in shelves():
            self.refused(shelf, "NoRoom", "h", sent_of(FIRST, large))
            word, first, deeds, second = sent_of(FIRST, large)
            self.refused(shelf, "Other", "h", (word, first, deeds, second - 1))
        shelf = shelves()[0]
        shelf.rebound("h", 61)
        self.refused(shelf, "NoRoom", "h", sent_of(FIRST, large))
        shelf.rebound("h", 62)
        lay(shelf, "h", sent_of(FIRST, large))
        self.assertEqual(shelf.view("h"), large)

    def test_full_behind_no_room(self):
        large = folder(a=file(*[(at,) for at in range(60)]))
        for once in (True, False):
            shelf = shelf_with(begun(40, once), ("house", "h", 50), ("do", "h", MAKE_FIRST))
            self.refused(shelf, "NoRoom", "h", sent_of(FIRST, large))
            shelf.rebound("h", 500)
            self.refused(shelf, "Full", "h", sent_of(FIRST, large))
            self.refused(shelf, "Other", "h", sent_of(large, FIRST))

    def test_a_hurt_shelf(self):
        shelf = shelf_with(begun(40, True), ("house", "h", 50), ("do", "h", MAKE_FIRST), ("house", "i", 5), ("do", "i", file_deeds(("z",), 1)))
        spoil(shelf.disk, shelf.roots()[1])
        hurt = Shelf(shelf.disk)
        ahead = cells(hurt.disk)
        for name, sent in (("h", sent_of(FIRST, SECOND)), ("x", None), ("h", None), ("i", ("sent", 1, (), 1)), ("h", sent_of(FIRST, FIRST))):
            self.assertEqual(refusal(lay, hurt, name, sent), "Lost")
        self.assertEqual(cells(hurt.disk), ahead)

    def test_between_entries_of_long_rows(self):
        laid = 0
        for seed in range(6):
            source, shelf, plain = long_row(seed, 400, 60)
            for number in range(20):
                houses = [entry[0] for entry in plain.entries() if entry[1] == "house"]
                first, second = source.choice(houses), source.choice(plain.entries())[0]
                sent = read_sent(written_sent(sent_of(plain.view(first), plain.view(second))))
                answers = [refusal(lay, one, first, sent) for one in (shelf, plain)]
                self.assertEqual(answers[0], answers[1])
                self.assertIn(answers[0], (None, "NoRoom"))
                self.assertEqual(told(shelf), told(plain))
                if answers[0] is None:
                    laid += 1
                    self.assertEqual(shelf.view(first), plain.view(second))
        self.assertGreater(laid, 50)


if __name__ == "__main__":
    unittest.main()
