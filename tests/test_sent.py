"""What is sent (32)."""

import random
import unittest

from helper import EMPTY, WHATEVER, chain, file, folder, leaves, refusal, some_deeds
from snapshelf.between import told_between
from snapshelf.deeds import all_done
from snapshelf.sent import is_sent, read_deed, read_sent, sent_of, written_deed, written_sent
from snapshelf.sentcheck import sent_holds
from snapshelf.tally import tally_of
from snapshelf.things import room_of

LAST_TALLY = 2305843009213693950
DEEDS = (
    (("folder", ("a",)), "folder a"),
    (("folder", ("a", "bb", "c", "d", "e", "zzzzzzzz")), "folder a/bb/c/d/e/zzzzzzzz"),
    (("file", ("a", "b")), "file a/b"),
    (("put", ("a", "b"), 0, (1, 2)), "put a/b 0 1 2"),
    (("put", ("a",), 64, ()), "put a 64"),
    (("put", ("a",), 7, (0, 255, 10, 0, 0, 0, 0, 1)), "put a 7 0 255 10 0 0 0 0 1"),
    (("trim", ("a",), 0), "trim a 0"),
    (("trim", ("a", "b"), 64), "trim a/b 64"),
    (("out", ("x",)), "out x"),
    (("move", ("a", "b"), ("c",)), "move a/b c"),
    (("copy", ("a",), ("a", "b", "c")), "copy a a/b/c"),
)
NO_DEEDS = (
    "", " ", "folder", "folder ", " folder a", "folder a ", "folder  a", "folder a b", "Folder a", "folder A", "folder a/", "folder /a",
    "folder a//b", "folder a/b/c/d/e/f/g", "folder aaaaaaaaa", "folder a\n", "folder a;", "file", "file a 1", "file /", "put", "put a",
    "put a ", "put  0", "put a 0 ", "put a  0", "put a 0  1", "put a 00", "put a 01", "put a 65", "put a -1", "put a +1", "put a 0 256",
    "put a 0 01", "put a 0 1 2 3 4 5 6 7 8 9", "put a 0 a", "put a b 0", "put a 1.0", "put a 0x1", "put a 1_0", "put a 0\n", "trim", "trim a",
    "trim a 65", "trim a 1 2", "trim a 01", "trim a b", "trim  1", "out", "out ", "out a b", "move", "move a", "move a ", "move  a", "move a b c",
    "move a b/", "copy a", "copy a 1", "copy a b c", "make a", "sent 1", "0 a", "do a", "put a " + "9" * 5000,
)


class DeedTextsTest(unittest.TestCase):

    def test_each_deed(self):
        for deed, text in DEEDS:
            self.assertEqual(written_deed(deed), text)
            self.assertEqual(read_deed(text), deed)

    def test_what_is_none(self):
        for text in NO_DEEDS + WHATEVER + ((), 0, DEEDS[0][0], [DEEDS[0][1]]):
            self.assertEqual(refusal(read_deed, text), "NoSent", repr(text)[:50])


class IsSentTest(unittest.TestCase):

    def test_what_is_sent(self):
        self.assertIs(is_sent(("sent", 0, (), LAST_TALLY)), True)
        self.assertIs(is_sent(("sent", LAST_TALLY, (), 0)), True)
        self.assertIs(is_sent(("sent", 5, tuple(deed for deed, text in DEEDS), 6)), True)
        self.assertIs(is_sent(("sent", 5, (("out", ("a",)),) * 1000, 6)), True)

    def test_what_is_not(self):
        good = ("sent", 5, (("out", ("a",)), ("trim", ("a",), 1)), 6)
        self.assertTrue(is_sent(good))
        bent = [
            good[:3], good + (1,), list(good), ("Sent",) + good[1:], (None,) + good[1:], ("sent", 5, list(good[2]), 6),
            ("sent", 5, (("out", ("a",)),) * 1001, 6), ("sent", 5, (list(good[2][0]),), 6), ("sent", 5, ("out a",), 6), ("sent", 5, None, 6),
            ("sent", 5, (("out", ()),), 6), ("sent", 5, (("trim", ("a",), True),), 6), ("sent", 5, {}, 6), ("sent", 5, (good,), 6),
        ]
        for tally in (LAST_TALLY + 1, -1, True, False, None, "5", (5,), [5], 10 ** 40):
            bent += [("sent", tally) + good[2:], good[:3] + (tally,)]
        for one in bent + list(WHATEVER):
            self.assertIs(is_sent(one), False, one)


class SentTest(unittest.TestCase):

    def check(self, first, second):
        """What is sent of the two views holds, is written, and read back."""
        sent = sent_of(first, second)
        self.assertEqual(sent, ("sent", tally_of(first), tuple(told_between(first, second)), tally_of(second)))
        self.assertIs(is_sent(sent), True)
        self.assertIs(sent_holds(sent, first, second), True)
        text = written_sent(sent)
        self.assertEqual(read_sent(text), sent)
        self.assertNotIn("\n", text)
        return sent

    def test_of_views(self):
        first, second = folder(a=file((1,))), folder(a=file((1,), (2, 3)), b=EMPTY)
        sent = self.check(first, second)
        text = f"sent {tally_of(first)};put a 1 2 3;folder b;{tally_of(second)}"
        self.assertEqual(written_sent(sent), text)
        self.assertEqual(self.check(EMPTY, EMPTY), ("sent", 1, (), 1))
        self.assertEqual(written_sent(("sent", 1, (), 1)), "sent 1;1")
        self.assertEqual(written_sent(("sent", 0, tuple(deed for deed, each in DEEDS), LAST_TALLY)), ";".join(
            ["sent 0"] + [each for deed, each in DEEDS] + [str(LAST_TALLY)]
        ))

    def test_some_views(self):
        for seed in range(20):
            source = random.Random(seed)
            first = all_done(EMPTY, some_deeds(source, EMPTY, 15))
            second = all_done(first, some_deeds(source, first, 10))
            self.check(first, second)
            self.check(second, first)

    def test_the_largest_views(self):
        first = folder(**{name: file(*leaves(61)) for name in "abcdefgh"})
        second = folder(**{name: file(*[(9, at) for at in range(61)]) for name in "abcdefgh"})
        self.assertEqual(room_of(first), 497)
        self.check(first, second)
        self.check(chain("abcde", folder(a=file(*leaves(64)))), second)

    def test_more_than_a_thousand_deeds(self):
        wide = folder(**{name: folder(**{inner: file(*leaves(64)) for inner in "ab"}) for name in "abcdefgh"})
        deeds = told_between(EMPTY, wide)
        self.assertGreater(len(deeds), 1000)
        self.assertEqual(refusal(sent_of, EMPTY, wide), "NoSent")
        self.assertEqual(len(self.check(wide, EMPTY)[2]), 8)
        for many, due in ((1000, None), (1001, "NoSent")):
            view = all_done(EMPTY, deeds[:many])
            self.assertEqual(len(told_between(EMPTY, view)), many)
            self.assertEqual(refusal(sent_of, EMPTY, view), due)

    def test_texts_of_a_thousand_deeds_and_one_more(self):
        text = "sent 1" + ";out a" * 1000 + ";2"
        self.assertEqual(read_sent(text), ("sent", 1, (("out", ("a",)),) * 1000, 2))
        self.assertEqual(written_sent(read_sent(text)), text)
        self.assertEqual(refusal(read_sent, "sent 1" + ";out a" * 1001 + ";2"), "NoSent")

    def test_tallies_at_their_bound(self):
        self.assertEqual(read_sent(f"sent 0;{LAST_TALLY}"), ("sent", 0, (), LAST_TALLY))
        self.assertEqual(read_sent(f"sent {LAST_TALLY};0"), ("sent", LAST_TALLY, (), 0))
        self.assertEqual(refusal(read_sent, f"sent {LAST_TALLY + 1};0"), "NoSent")
        self.assertEqual(refusal(read_sent, f"sent 0;{LAST_TALLY + 1}"), "NoSent")

    def test_texts_that_are_none(self):
        texts = [
            "", "sent", "sent ", "sent 1", "sent 1;", "sent;1", "sent ;1", ";1", "1;1", "sent 1 ;1", "sent 1; 1", "sent 1;1 ", " sent 1;1",
            "sent  1;1", "sent 1;1\n", "sent 1;1;", "sent 1;;1", "Sent 1;1", "sent 01;1", "sent 1;01", "sent 00;0", "sent -1;1", "sent 1;+1",
            "sent 1 1;1", "sent 1;1 1", "sent 1;1;1", "sent a;1", "sent 1;a", "sent 1;out a ;1", "sent 1; out a;1", "sent 1;out a", "send 1;1",
            "sent 1;\nout a;1", "sent 1\n;1", "lay h sent 1;1", "sent 1;out;1", "sent 1;out a,1", "sent1;1", "sent\n1;1", "sent 1;" + "9" * 6000,
        ]
        texts += [f"sent 1;{text};1" for text in NO_DEEDS if text != "folder a;"]
        for text in texts + list(WHATEVER) + [(), 0, ("sent", 1, (), 1), ["sent 1;1"]]:
            self.assertEqual(refusal(read_sent, text), "NoSent", repr(text)[:60])


class SentCheckTest(unittest.TestCase):

    def setUp(self):
        self.first = folder(a=file((1,), (2,)), c=EMPTY, e=file())
        self.second = folder(a=file((9,)), b=folder(a=file((3,))), e=file())
        self.sent = sent_of(self.first, self.second)

    def holds(self, sent, first=None, second=None):
        answer = sent_holds(sent, first or self.first, second or self.second)
        self.assertIsInstance(answer, bool)
        return answer

    def test_bent_in_one_place(self):
        word, first, deeds, second = self.sent
        self.assertTrue(self.holds(self.sent))
        self.assertEqual(len(deeds), 6)
        for tally in (1, -1):
            self.assertFalse(self.holds((word, first + tally, deeds, second)))
            self.assertFalse(self.holds((word, first, deeds, second + tally)))
        self.assertFalse(self.holds((word, second, deeds, first)))
        self.assertFalse(self.holds((word, first, list(deeds), second)))
        self.assertFalse(self.holds(list(self.sent)))
        self.assertFalse(self.holds((word, first, deeds)))
        for at in range(len(deeds)):
            self.assertFalse(self.holds((word, first, deeds[:at] + deeds[at + 1:], second)), at)
            self.assertFalse(self.holds((word, first, deeds[:at] + (("file", ("q",)),) + deeds[at:], second)), at)
            self.assertFalse(self.holds((word, first, deeds[:at] + (("out", ("e",)),) + deeds[at + 1:], second)), at)
            self.assertFalse(self.holds((word, first, deeds[:at] + (list(deeds[at]),) + deeds[at + 1:], second)), at)

    def test_a_deed_twice(self):
        word, first, deeds, second = self.sent
        for at, deed in enumerate(deeds):
            # A put or a trim may be done twice with the same end; nothing else may.
            twice = self.holds((word, first, deeds[:at] + (deed,) + deeds[at:], second))
            self.assertEqual(twice, deed[0] in ("put", "trim"))

    def test_other_deeds_with_the_same_end(self):
        word, first, deeds, second = self.sent
        more = (("folder", ("q",)), ("out", ("q",)))
        self.assertTrue(self.holds((word, first, deeds + more, second)))
        self.assertTrue(self.holds((word, first, more * 495 + deeds, second)))
        self.assertFalse(self.holds((word, first, more * 498 + deeds, second)))
        remade = tuple(("out", (name,)) for name in "ace") + tuple(told_between(EMPTY, self.second))
        self.assertTrue(self.holds((word, first, remade, second)))

    def test_of_other_views(self):
        self.assertFalse(self.holds(self.sent, self.second, self.second))
        self.assertFalse(self.holds(self.sent, self.first, self.first))
        self.assertFalse(self.holds(self.sent, self.second, self.first))
        self.assertTrue(self.holds(("sent", tally_of(self.first), (), tally_of(self.first)), self.first, self.first))

    def test_a_refused_deed(self):
        word, first, deeds, second = self.sent
        for deed in (("out", ("q",)), ("move", ("a",), ("a", "b")), ("put", ("a",), 64, ()), ("file", ("a",))):
            self.assertFalse(self.holds((word, first, (deed,) + deeds, second)))

    def test_whatever_is_handed_in(self):
        for one in WHATEVER + (0, "", (), written_sent(self.sent)):
            self.assertFalse(self.holds(one), one)


if __name__ == "__main__":
    unittest.main()
