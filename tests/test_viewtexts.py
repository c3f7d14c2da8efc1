"""Views told by lines, and tallies (9, 10)."""

import unittest

from helper import EMPTY, WHATEVER, chain, file, folder
from snapshelf.errors import NoView
from snapshelf.tally import tally_of
from snapshelf.viewtexts import read_view, told_view

VIEW = folder(b=file((1, 20, 255), (), (0,)), z=EMPTY, aa=folder(c=folder(d=file(())), ab=file()), leaf=file((3,)))
TEXT = (
    "file b leaf 1 20 255 leaf leaf 0\nfolder z\nfolder aa\nfolder aa/c\nfile aa/c/d leaf\nfile aa/ab\nfile leaf leaf 3\n"
)
SIX = ("a", "b", "c", "d", "e", "f")
TOLD = (
    (EMPTY, ""),
    (folder(a=EMPTY), "folder a\n"),
    (folder(a=file()), "file a\n"),
    (folder(a=file(())), "file a leaf\n"),
    (folder(a=file((), ())), "file a leaf leaf\n"),
    (folder(a=file((0, 10), (7,))), "file a leaf 0 10 leaf 7\n"),
    (folder(folder=folder(file=file())), "folder folder\nfile folder/file\n"),
    (VIEW, TEXT),
)


def text_of_names(kind, names):
    return "".join(kind + " " + name + "\n" for name in names)


class TellingTest(unittest.TestCase):

    def test_told(self):
        for view, text in TOLD:
            self.assertEqual(told_view(view), text)

    def test_read_back(self):
        for view, text in TOLD:
            self.assertEqual(read_view(text), view)

    def test_each_bound(self):
        views = (
            ("folder", tuple((name, file()) for name in "abcdefgh")), folder(a=file(*[(255,) * 8] * 64)),
            chain(SIX, file((1,))), chain(SIX, EMPTY), folder(abcdefgh=EMPTY),
        )
        for view in views:
            self.assertEqual(read_view(told_view(view)), view)


class NoViewTest(unittest.TestCase):

    def refused(self, *texts):
        for text in texts:
            self.assertRaises(NoView, read_view, text)

    def test_bounds_gone_beyond(self):
        self.refused(
            text_of_names("file", "abcdefghi"), text_of_names("folder", "abcdefghi"),
            "folder x\n" + text_of_names("file", ["x/" + name for name in "abcdefghi"]),
            "file a" + " leaf" * 65 + "\n", "file a leaf" + " 1" * 9 + "\n", "file a leaf 256\n", "file a leaf 1000\n",
            "file a leaf -1\n", "file abcdefghi\n", "folder abcdefghi\n",
            "".join("folder " + "/".join("abcdefg"[:many]) + "\n" for many in range(1, 8)),
            "file a leaf " + "9" * 5000 + "\n",
        )

    def test_lines_out_of_order(self):
        self.refused(
            "folder b\nfolder a\n", "file aa\nfile b\n", "folder a\nfolder b\nfile a/c\n", "file a/b\nfolder a\n",
            "folder a\nfile a/c\nfile a/b\n", "folder a\nfile a/aa\nfile a/b\n", "folder a\nfolder b\nfile b/a\nfile a/a\n",
        )

    def test_a_line_twice(self):
        self.refused("folder a\nfolder a\n", "file a\nfile a\n", "file a\nfolder a\n", TEXT + TEXT, "file a leaf 1\nfile a\n")

    def test_folders_that_are_not_there(self):
        self.refused("file a/b\n", "folder a/b\n", "file a\nfile a/b\n", "folder a\nfile a/b/c\n", "folder a\nfile b/c\n")

    def test_blanks(self):
        self.refused(
            " folder a\n", "folder  a\n", "folder a \n", "file a leaf  1\n", "file a  leaf\n", "file a leaf 1 \n", "file \n",
            "file a leaf \n", "folder\n", "folder \n", "file\n", " \n", "folder a\n \n", "folder\ta\n", "file a leaf\t1\n",
            "file a leaf 1\u00a02\n",
        )

    def test_noughts_and_other_ways_of_numbers(self):
        self.refused(
            "file a leaf 00\n", "file a leaf 01\n", "file a leaf 1 007\n", "file a leaf +1\n", "file a leaf -0\n",
            "file a leaf 1_0\n", "file a leaf 1.0\n", "file a leaf 0x1\n", "file a leaf \u0661\n", "file a leaf \u00b2\n",
            "file a leaf x\n", "file a leaf None\n",
        )

    def test_line_feeds(self):
        self.refused(
            "folder a", "file a", "file a leaf 1", "folder a\nfolder b", "\n", "\n\n", "folder a\n\n", "\nfolder a\n",
            "folder a\n\nfolder b\n", "folder a\r\n", "folder a\x0bfolder b\n", "folder a folder b\n", TEXT[:-1], TEXT + "\n",
        )

    def test_other_words(self):
        self.refused(
            "Folder a\n", "leaf\n", "a\n", "folder A\n", "folder a1\n", "folder /\n", "folder /a\n", "folder a/\n",
            "folder a leaf\n", "folder a 1\n", "file a 1\n", "file a b\n", "file a leaf leaf1\n", "file a Leaf\n", "file a leafs\n",
            "out a\n", "put a 0\n", "folder ()\n", "file a file b\n", "view\n", "~\n",
        )

    def test_what_is_no_text(self):
        self.refused(*WHATEVER, 0, 1, (), VIEW, [TEXT], TEXT.split("\n"), (TEXT,), {TEXT: VIEW}, TEXT.encode())


class TallyTest(unittest.TestCase):

    def test_of_the_empty_view(self):
        self.assertEqual(tally_of(EMPTY), 1)

    def test_sign_by_sign(self):
        for view, text in TOLD:
            tally = 1
            for sign in text:
                tally = tally * 257 + ord(sign) + 1
                tally -= tally // (2 ** 61 - 1) * (2 ** 61 - 1)
            self.assertEqual(tally_of(view), tally)

    def test_reckoned_by_hand(self):
        # file a: 102 105 108 101 32 97 10
        self.assertEqual(tally_of(folder(a=file())), (
            ((((((1 * 257 + 103) * 257 + 106) * 257 + 109) * 257 + 102) * 257 + 33) * 257 + 98) * 257 + 11
        ) % 2305843009213693951)

    def test_other_views_have_other_tallies(self):
        tallies = [tally_of(view) for view, text in TOLD]
        self.assertEqual(len(set(tallies)), len(tallies))

    def test_tallies_are_below_the_modulus(self):
        for view, text in TOLD:
            self.assertTrue(0 <= tally_of(view) < 2305843009213693951)


if __name__ == "__main__":
    unittest.main()
