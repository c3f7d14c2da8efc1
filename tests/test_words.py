"""Lines read as what they ask (34 to 39)."""

import unittest

from helper import WHATEVER, refusal
from snapshelf.desk import Desk
from snapshelf.words import read_line

LINES = (
    "folder h a", "folder h a/b/c/d/e/f", "file hhhhhhhh zzzzzzzz", "put h a/b 0 1 2", "put h a 64", "put h a 0 0 0 0 0 0 0 0 255", "trim h a 0",
    "trim h a 64", "out h a", "move h a b/c", "copy h a a/b", "house a 1", "house a 500", "snap h s", "back h s", "clone s h 500", "drop h",
    "rebound h 1", "names", "tell h", "room h", "alone h", "sent h s", "sent h h", "lay h ", "lay h x", "lay h sent 1;1", "lay h   ", "lay h a  b ",
    "open h a", "open h a/b/c/d/e/f", "read 0", "read 1000000", "close 1", "check", "cut 0 ; house a 5", "cut 2 0 1 1000 ; drop h",
    "cut 1 1 0 ; lay h ", "cut 1 ; lay h a ; b", "cut 0 5 ; put h a 0 1", "cut 0 ; rebound h 5", "cut 0 ; snap h s", "cut 0 ; back h s",
    "cut 0 ; clone s h 5", "rot 0 0", "rot 1 11", "again", "mend", "house house 5", "drop cut", "folder folder folder",
)
NO_LINES = (
    "", " ", "\n", "x", "do h", "do h a", "NAMES", "Names", "help", ";", "names;", "h", "12",
    # words too many or too few
    "folder", "folder h", "folder h a b", "file h", "file h a 0", "put h", "put h a", "put h a 0 1 2 3 4 5 6 7 8 9", "trim h a", "trim h a 1 2",
    "out h", "out h a b", "move h a", "move h a b c", "copy h a", "copy h a b c", "house", "house h", "house h 5 5", "snap h", "snap h s t",
    "back h", "back h s t", "clone s h", "clone s h 5 5", "drop", "drop h h", "rebound h", "rebound h 5 5", "names h", "tell", "tell h h", "room",
    "room h 5", "alone", "alone h h", "sent", "sent h", "sent h h h", "lay", "lay h", "open", "open h", "open h a b", "read", "read 1 2", "close",
    "close 1 1", "check h", "cut", "cut 0", "cut 0 ;", "cut 0 ; ", "cut ; house a 5", "cut 0 house a 5", "rot", "rot 0", "rot 0 1 2", "again h",
    "mend h",
    # two blanks together, or one at an end
    " names", "names ", "tell  h", " tell h", "tell h ", "folder  h a", "folder h  a", "folder h a ", "put h a 0  1", "put h a 0 ", "house h  5",
    "house  h 5", "house h 5 ", "lay ", "lay  ", "lay  h x", " lay h x", "cut  0 ; drop h", "cut 0  ; drop h", "cut 0 ;  drop h",
    "cut 0 ; drop h ", " cut 0 ; drop h", "cut 0 1  2 ; drop h", "cut 0;drop h", "cut 0 ;drop h", "cut 0; drop h", "rot  0 1", "again ",
    # names and paths that aren't such
    "folder H a", "folder h A", "folder h a/", "folder h /a", "folder h a//b", "folder h /", "folder h1 a", "folder hhhhhhhhh a",
    "folder h aaaaaaaaa", "folder h a/b/c/d/e/f/g", "folder h/a a", "move h a /", "house 5 h", "house H 5", "house a/b 5", "snap h 5", "snap H s",
    "tell 1", "tell a/b", "lay H x", "lay 1 x", "lay hhhhhhhhh x", "open h /", "open h ", "open h a/b/c/d/e/f/g", "open h A", "drop -",
    # numbers that aren't such, not in their range, or not in their one way
    "house h 0", "house h 501", "house h 05", "house h -1", "house h +5", "house h 5.0", "house h x", "rebound h 0", "rebound h 501", "clone s h 0",
    "clone s h 501", "put h a 65", "put h a 00", "put h a 0 256", "put h a 0 01", "put h a x", "trim h a 65", "trim h a 01", "read 1000001",
    "read 01", "read -1", "read x", "close 1000001", "close 00", "rot 2 0", "rot 00 1", "rot 0 01", "rot 0 12", "rot 0 -1", "rot x 0",
    "rot 0 99999999", "cut 3 ; drop h", "cut 00 ; drop h", "cut x ; drop h", "cut 0 1001 ; drop h", "cut 0 01 ; drop h", "cut 0 1 1 ; drop h",
    "cut 0 x ; drop h", "cut 0 -1 ; drop h", "house h " + "9" * 5000,
    # what can't be cut
    "cut 0 ; names", "cut 0 ; tell h", "cut 0 ; open h a", "cut 0 ; close 1", "cut 0 ; mend", "cut 0 ; again", "cut 0 ; rot 0 0",
    "cut 0 ; check", "cut 0 ; cut 0 ; drop h", "cut 0 ; sent h h", "cut 0 ; lay h", "cut 0 ; x", "cut 0 ; ; drop h", "cut 0 ; " * 3000 + "drop h",
    # line feeds
    "names\n", "\nnames", "tell h\n", "tell\nh", "folder h a\n", "folder h a\nfile h b", "house h 5\n", "put h a 0\n", "cut 0 ; drop h\n",
    "cut 0\n; drop h", "lay\nh x", "again\n",
)


class WordsTest(unittest.TestCase):

    def test_lines(self):
        for line in LINES:
            self.assertIsNone(refusal(read_line, line), line)

    def test_each_line_asks_something_of_its_own(self):
        self.assertEqual(len({repr(read_line(line)) for line in LINES}), len(LINES))
        for line in LINES:
            self.assertEqual(read_line(line), read_line(line))

    def test_no_lines(self):
        # Which spots there are the desk knows, not the line.
        for line in NO_LINES + WHATEVER + ((), 0, ["names"], ("names",), {"names": 1}):
            if line not in ("rot 0 12",):
                self.assertEqual(refusal(read_line, line), "NoWord", repr(line)[:50])

    def test_no_lines_at_a_desk(self):
        desk = Desk(8, True)
        for line in NO_LINES + WHATEVER + ((), 0, ["names"], ("names",), {"names": 1}):
            self.assertEqual(desk.say(line), "no NoWord", repr(line)[:50])

    def test_lines_at_a_desk(self):
        for line in LINES:
            self.assertNotEqual(Desk(8, True).say(line), "no NoWord", line)


if __name__ == "__main__":
    unittest.main()
