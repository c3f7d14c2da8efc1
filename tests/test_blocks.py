"""Blocks (13)."""

import unittest

from helper import WHATEVER
from snapshelf.blocks import height_of, is_block, kind_of, links
from snapshelf.names import code_of

CODES = tuple(code_of(name) for name in ("a", "b", "z", "aa", "ab", "zz", "abc", "abcdefgh", "zzzzzzzz"))


def rows_of_folder(codes):
    """Codes and places, one behind another."""
    content = ()
    for at, code in enumerate(codes):
        content += (code, at + 5)
    return content


def bundled(many):
    """How many places a file with so many leaves has, by bundling them one by one."""
    row = list(range(many))
    for level in range(height_of(many) - 1):
        row = [row[at:at + 4] for at in range(0, len(row), 4)]
    return len(row)


class BlocksTest(unittest.TestCase):

    def is_one(self, content, kind, places):
        self.assertIs(is_block(content), True, content)
        self.assertEqual(kind_of(content), kind)
        self.assertEqual(links(content), places)
        self.assertIsInstance(links(content), tuple)

    def is_none(self, *contents):
        for content in contents:
            self.assertIs(is_block(content), False, content)

    def test_leaves(self):
        for leaf in ((), (0,), (255,), (1, 2, 3), (255,) * 8):
            self.is_one((0,) + leaf, "leaf", ())
        self.is_none((0,) + (1,) * 9, (0, 256), (0, 1, 256), (0, -1), (0, True), (0, None), (0, "1"), (0, (1,)), (False,))

    def test_branches(self):
        for places in ((1,), (400,), (7, 7), (3, 2, 1), (1, 2, 3, 4), (5, 5, 5, 5), (10 ** 9,)):
            self.is_one((1,) + places, "branch", places)
        self.is_none((1,), (1, 1, 2, 3, 4, 5), (1, 0), (1, 1, 0), (1, 0, 1), (1, -1), (1, True), (1, None), (True, 1))

    def test_files(self):
        for many in range(65):
            places = tuple(range(9, 9 + bundled(many)))
            self.is_one((2, many) + places, "file", places)
            self.is_none((2, many) + places + (30,))
            if places:
                self.is_none((2, many) + places[:-1], (2, many) + places[:-1] + (0,), (2, many) + places[:-1] + (True,))
        self.is_one((2, 2, 7, 7), "file", (7, 7))

    def test_how_many_places_some_files_have(self):
        for many, places in ((0, 0), (1, 1), (4, 4), (5, 2), (8, 2), (9, 3), (16, 4), (17, 2), (32, 2), (33, 3), (48, 3), (64, 4)):
            self.is_one((2, many) + (5,) * places, "file", (5,) * places)

    def test_no_files(self):
        self.is_none(
            (2,), (2, 65, 1, 2), (2, 65), (2, 65, 1, 2, 3, 4), (2, 65, 1, 2, 3, 4, 5), (2, 256, 1), (2, -1), (2, True, 1), (2, False),
            (2, None), (2, 5, 1, 2, 3, 4, 5), (2, 1, 1, 1), (2, 2, 0, 1), (2, 1, -1), (2, 1, None), (2, 1, (1,)), (2, (), ()),
        )

    def test_folders(self):
        for many in range(9):
            self.is_one((3,) + rows_of_folder(CODES[:many]), "folder", tuple(range(5, 5 + many)))
        self.is_one((3, 1, 9, 2, 9), "folder", (9, 9))
        self.is_one((3, 28, 1, 27 ** 8 - 1, 400), "folder", (1, 400))

    def test_no_folders(self):
        self.is_none(
            (3,) + rows_of_folder(CODES), (3, 1), (3, 1, 5, 2), (3, 0, 5), (3, 27, 5), (3, 54, 5), (3, 27 ** 8, 5), (3, 729, 5),
            (3, 1, 0), (3, 1, 5, 2, 0), (3, 2, 5, 1, 6), (3, 1, 5, 1, 6), (3, 28, 5, 2, 6), (3, 1, 5, 28, 6, 28, 7), (3, True, 5),
            (3, 1, True), (3, 1, -1), (3, -1, 5), (3, "a", 5), (3, 1, None), (3, (1, 5)), (3, None, None),
        )

    def test_other_beginnings(self):
        self.is_none((), (4,), (4, 1), (-1,), (10 ** 20, 1), ((0,),), ("0",), ("leaf",), (None, 1), ("3", 1, 5))

    def test_lists_in_the_place_of_rows(self):
        self.is_none([0], [0, 1], [1, 5], [2, 0], [3], (0, [1]), (1, [5]), (2, [0]), (3, [1, 5]), {0: 1}, [])

    def test_whatever_is_handed_in(self):
        for one in WHATEVER:
            self.is_none(one, (0, one), (2, one), (3, one), (3, one, 5), (one, 1), (one,))
            # A great number is a place like another.
            if one != 10 ** 30:
                self.is_none((1, one), (2, 1, one), (3, 1, one))

    def test_the_height_of_each_number_of_leaves(self):
        for many in range(65):
            expected = min(height for height in range(1, 10) if 4 ** height >= many)
            self.assertEqual(height_of(many), expected)
        self.assertEqual([height_of(many) for many in (0, 1, 4, 5, 16, 17, 64)], [1, 1, 1, 2, 2, 3, 3])


if __name__ == "__main__":
    unittest.main()
