"""Trees: which places are good, what stands at them, what is come to (16)."""

import copy
import unittest

from helper import EMPTY, WHATEVER, chain, dense, file, folder, laid, leaves, put_block, refusal
from snapshelf.names import code_of
from snapshelf.trees import come_to, is_good, leaf_places, thing_of

BOUNDS = (0, 1, 3, 4, 5, 8, 9, 15, 16, 17, 20, 21, 32, 33, 48, 49, 63, 64)
SIX = ("a", "b", "c", "d", "e", "f")
VIEW = folder(a=file((1,), (), (2, 3)), b=folder(c=file(*leaves(17)), d=EMPTY), aa=file())


def one_file(many):
    """Blocks of a file with so many leaves, its place, and what is below it."""
    blocks = {}
    place = laid(blocks, file(*leaves(many)))
    return blocks, place


class GoodFileTest(unittest.TestCase):

    def good(self, blocks, place, expected):
        before = copy.deepcopy(blocks)
        self.assertIs(is_good(blocks, place, "file"), expected, (blocks.get(place), blocks))
        self.assertEqual(blocks, before)

    def test_each_number_of_leaves(self):
        for many in range(65):
            blocks, place = one_file(many)
            self.good(blocks, place, True)
            self.assertIs(is_good(blocks, place, "folder"), False)

    def test_only_the_file_itself_is_good_for_one(self):
        for many in (1, 5, 17, 64):
            blocks, place = one_file(many)
            for other in [each for each in blocks if each != place]:
                self.good(blocks, other, False)
                self.assertIs(is_good(blocks, other, "folder"), False)

    def test_a_place_that_is_not_there(self):
        self.good({}, 1, False)
        for many in BOUNDS:
            blocks, place = one_file(many)
            self.good(blocks, place + 1, False)
            for missing in blocks:
                less = {each: blocks[each] for each in blocks if each != missing}
                self.good(less, place, False)

    def test_what_is_no_block(self):
        for many in (0, 1, 5, 17):
            blocks, place = one_file(many)
            for at in blocks:
                for content in ((), (4, 1), (0, 256), (1,), (1, 0), (2, 65), (0,) + (1,) * 9):
                    self.good({**blocks, at: content}, place, False)
        for content in WHATEVER:
            self.good({1: content}, 1, False)
            self.good({1: (2, 1, 2), 2: content}, 1, False)

    def test_as_full_as_told(self):
        for many in range(65):
            blocks, place = one_file(many)
            for told in range(65):
                if told != many:
                    self.good({**blocks, place: (2, told) + blocks[place][2:]}, place, False)

    def test_as_high_as_told(self):
        # Four leaves below one branch, and one below two, where the leaves hang at the file itself.
        blocks = {1: (0, 1), 2: (1, 1, 1, 1, 1), 3: (2, 4, 2), 4: (2, 1, 2), 5: (1, 1), 6: (2, 1, 5), 7: (1, 5)}
        self.good(blocks, 3, False)
        self.good(blocks, 4, False)
        self.good(blocks, 6, False)
        self.good({**blocks, 6: (2, 1, 7)}, 6, False)
        # Five leaves: two branches, not five leaves below, and not a branch higher.
        self.good({**blocks, 6: (2, 5, 2, 5)}, 6, True)
        self.good({**blocks, 6: (2, 5, 2, 1)}, 6, False)
        self.good({**blocks, 6: (2, 5, 2, 7)}, 6, False)
        self.good({**blocks, 6: (2, 5, 5, 2)}, 6, False)
        self.good({**blocks, 6: (2, 6, 2, 5)}, 6, False)
        # Seventeen: the last branch has a branch below it.
        high = {**blocks, 8: (1, 2, 2, 2, 2), 9: (2, 17, 8, 7)}
        self.good(high, 9, True)
        self.good({**high, 9: (2, 17, 8, 5)}, 9, False)
        self.good({**high, 9: (2, 17, 7, 8)}, 9, False)
        self.good({**high, 9: (2, 16, 2, 2, 2, 2)}, 9, True)
        self.good({**high, 9: (2, 16, 2, 2, 2, 8)}, 9, False)
        self.good({**high, 9: (2, 64, 8, 8, 8, 8)}, 9, True)
        self.good({**high, 9: (2, 64, 8, 8, 8, 2)}, 9, False)
        self.good({**high, 9: (2, 63, 8, 8, 8, 8)}, 9, False)

    def test_a_branch_that_is_not_full(self):
        for many in (5, 8, 16, 17, 64):
            blocks, place = one_file(many)
            for at in [each for each in blocks if blocks[each][0] == 1]:
                self.good({**blocks, at: blocks[at][:-1]}, place, False)
                self.good({**blocks, at: blocks[at] + blocks[at][1:2]}, place, False)

    def test_links_that_lead_back_or_elsewhere(self):
        for many in (1, 5, 17):
            blocks, place = one_file(many)
            stray = put_block(blocks, (3,))
            for at in [each for each in blocks if blocks[each][0] in (1, 2)]:
                for wrong in (at, place, stray, stray + 1):
                    self.good({**blocks, at: blocks[at][:-1] + (wrong,)}, place, False)

    def test_one_leaf_or_branch_many_times(self):
        self.good({1: (0,), 2: (2, 4, 1, 1, 1, 1)}, 2, True)
        self.good({1: (0,), 2: (1, 1, 1, 1, 1), 3: (2, 16, 2, 2, 2, 2)}, 3, True)


class GoodFolderTest(unittest.TestCase):

    def good(self, blocks, place, expected):
        before = copy.deepcopy(blocks)
        self.assertIs(is_good(blocks, place, "folder"), expected, (blocks.get(place), blocks))
        self.assertEqual(blocks, before)

    def test_good_ones(self):
        for view in (EMPTY, VIEW, folder(a=EMPTY), folder(a=file()), chain(SIX, file((1,))), chain(SIX, EMPTY)):
            blocks = {}
            place = laid(blocks, view)
            self.good(blocks, place, True)
            self.assertIs(is_good(blocks, place, "file"), False)

    def test_six_names_and_seven(self):
        for last in (file(), file((1,)), file(*leaves(64)), EMPTY):
            for many in range(1, 10):
                blocks = {}
                place = laid(blocks, chain("abcdefghi"[:many], last))
                self.good(blocks, place, many <= 6)

    def test_seven_names_beside_short_paths(self):
        for names in ("abcdef", "abcdefg"):
            blocks = {}
            place = laid(blocks, folder(a=file(), b=chain(names[1:], file()), c=EMPTY))
            self.good(blocks, place, len(names) == 6)

    def test_one_folder_at_a_short_path_and_at_a_long_one(self):
        # The same place is good at the first path and too deep at the second.
        for names, expected in (("bcde", True), ("bcdef", False)):
            blocks = {}
            low = laid(blocks, folder(x=file()))
            place = low
            for name in reversed(names):
                place = put_block(blocks, (3, code_of(name), place))
            for content in ((3, 1, low, 2, place), (3, 1, place, 2, low)):
                self.good({**blocks, 99: content}, 99, expected)

    def test_a_place_that_is_not_there(self):
        blocks = {}
        place = laid(blocks, VIEW)
        self.good(blocks, place + 1, False)
        self.good({}, 1, False)
        for missing in blocks:
            less = {each: blocks[each] for each in blocks if each != missing}
            self.good(less, place, False)

    def test_what_is_no_block(self):
        blocks = {}
        place = laid(blocks, VIEW)
        for at in blocks:
            for content in ((), (4,), (3, 1), (3, 27, 1), (3, 2, 1, 1, 1), (0, 256)):
                self.good({**blocks, at: content}, place, False)
        for content in WHATEVER:
            self.good({1: content}, 1, False)
            self.good({1: (3, 1, 2), 2: content}, 1, False)

    def test_a_leaf_or_a_branch_in_a_files_stead(self):
        for wrong in ((0, 1), (0,), (1, 1), (1, 2)):
            blocks = {1: (0,), 2: (1, 1), 3: wrong}
            self.good(blocks, 3, False)
            self.good({**blocks, 4: (3, 1, 3)}, 4, False)
            self.good({**blocks, 4: (3, 1, 5, 2, 3), 5: (2, 0)}, 4, False)

    def test_a_file_that_is_not_good(self):
        self.good({1: (3, 1, 2), 2: (2, 1, 3), 3: (1, 4), 4: (0,)}, 1, False)
        self.good({1: (3, 1, 2), 2: (2, 1, 3), 3: (0,)}, 1, True)

    def test_links_that_lead_back(self):
        self.good({1: (3, 1, 1)}, 1, False)
        self.good({1: (3, 1, 2), 2: (3, 1, 1)}, 1, False)
        self.good({1: (3, 1, 2, 2, 3), 2: (2, 0), 3: (3, 1, 2, 2, 3)}, 1, False)
        self.good({1: (3, 1, 2, 2, 2), 2: (3,)}, 1, True)
        row = {place: (3, 1, place + 1) for place in range(1, 400)}
        self.good({**row, 400: (3, 1, 1)}, 1, False)
        self.good({**row, 400: (3,)}, 1, False)
        self.good({**row, 400: (3,)}, 394, True)
        self.good({**row, 400: (3,)}, 393, False)

    def test_a_thing_at_very_many_paths(self):
        blocks, place = dense(EMPTY)
        self.good(blocks, place, True)
        above = put_block(blocks, (3, 1, place))
        self.good(blocks, above, False)
        blocks, place = dense(file(*leaves(64)))
        self.good(blocks, place, True)
        self.good({**blocks, 1: (1, 2)}, place, False)


class LeafPlacesTest(unittest.TestCase):

    def test_in_order(self):
        for many in range(65):
            blocks, place = one_file(many)
            before = dict(blocks)
            told = leaf_places(blocks, place)
            self.assertIsInstance(told, list)
            self.assertEqual([blocks[each] for each in told], [(0,) + leaf for leaf in leaves(many)])
            self.assertEqual(blocks, before)

    def test_one_that_stands_twice(self):
        self.assertEqual(leaf_places({1: (0,), 2: (0, 1), 3: (2, 3, 2, 1, 2)}, 3), [2, 1, 2])
        blocks = {1: (0,), 2: (1, 1, 1, 1, 1), 3: (2, 9, 2, 2, 4), 4: (1, 1)}
        self.assertEqual(leaf_places(blocks, 3), [1] * 9)

    def test_no_leaf_is_looked_at(self):
        for many in BOUNDS:
            blocks, place = one_file(many)
            places = leaf_places(blocks, place)
            without = {each: blocks[each] for each in blocks if each not in places}
            self.assertEqual(leaf_places(without, place), places)
            self.assertEqual(leaf_places({**blocks, **{each: (9,) for each in places}}, place), places)

    def test_lost(self):
        self.assertEqual(refusal(leaf_places, {}, 1), "Lost")
        for many in BOUNDS:
            blocks, place = one_file(many)
            for missing in [each for each in blocks if blocks[each][0] != 0]:
                less = {each: blocks[each] for each in blocks if each != missing}
                self.assertEqual(refusal(leaf_places, less, place), "Lost")

    def test_a_list_of_its_own(self):
        blocks, place = one_file(3)
        leaf_places(blocks, place).append(9)
        self.assertEqual(leaf_places(blocks, place), [1, 2, 3])


class ThingOfTest(unittest.TestCase):

    def test_views_and_what_is_in_them(self):
        for view in (EMPTY, VIEW, chain(SIX, file((1,))), folder(a=file(*leaves(64)))):
            blocks = {}
            place = laid(blocks, view)
            before = dict(blocks)
            self.assertEqual(thing_of(blocks, place), view)
            self.assertEqual(blocks, before)

    def test_folders_and_files_in_a_view(self):
        blocks = {}
        laid(blocks, VIEW)
        told = [thing_of(blocks, place) for place in blocks if blocks[place][0] in (2, 3)]
        for thing in (VIEW, EMPTY, file(), file((1,), (), (2, 3)), VIEW[1][1][1], file(*leaves(17))):
            self.assertIn(thing, told)

    def test_files_of_each_number_of_leaves(self):
        for many in range(65):
            blocks, place = one_file(many)
            self.assertEqual(thing_of(blocks, place), file(*leaves(many)))

    def test_one_place_twice(self):
        blocks = {1: (0, 5), 2: (2, 2, 1, 1), 3: (3, 1, 2, 28, 2)}
        self.assertEqual(thing_of(blocks, 3), folder(a=file((5,), (5,)), aa=file((5,), (5,))))

    def test_lost(self):
        self.assertEqual(refusal(thing_of, {}, 1), "Lost")
        blocks = {}
        place = laid(blocks, VIEW)
        for missing in blocks:
            less = {each: blocks[each] for each in blocks if each != missing}
            self.assertEqual(refusal(thing_of, less, place), "Lost")
        self.assertEqual(refusal(thing_of, blocks, place + 1), "Lost")


class ComeToTest(unittest.TestCase):
    BLOCKS = {1: (0,), 9: (2, 2, 1, 1), 4: (3, 1, 9), 2: (3, 1, 4, 2, 9), 7: (3,), 8: (2, 0)}

    def comes(self, places, expected):
        blocks, asked = dict(self.BLOCKS), list(places)
        told = come_to(blocks, asked)
        self.assertIsInstance(told, list)
        self.assertEqual(told, expected)
        self.assertEqual((blocks, asked), (self.BLOCKS, places))

    def test_rising_and_none_twice(self):
        self.comes([2], [1, 2, 4, 9])
        self.comes([9, 2], [1, 2, 4, 9])
        self.comes([7, 2, 7, 4], [1, 2, 4, 7, 9])
        self.comes([1], [1])
        self.comes([8, 7], [7, 8])

    def test_of_no_places(self):
        self.comes([], [])
        self.assertEqual(come_to({}, []), [])

    def test_without_what_is_not_there(self):
        self.comes([3], [])
        self.comes([3, 7], [7])
        less = {each: self.BLOCKS[each] for each in (1, 2, 4)}
        self.assertEqual(come_to(less, [2]), [2, 4])
        self.assertEqual(come_to({2: (3, 1, 9, 2, 7), 7: (3,)}, [2, 5]), [2, 7])

    def test_a_thing_at_very_many_paths(self):
        blocks, place = dense(file(*leaves(64)))
        self.assertEqual(come_to(blocks, [place]), sorted(blocks))


if __name__ == "__main__":
    unittest.main()
