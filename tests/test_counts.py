"""How often blocks hang (18)."""

import random
import unittest

from helper import EMPTY, dense, file, folder, laid, leaves, some_shelf, walked
from snapshelf.counts import counts_of, hung, let_go

# 1 a leaf that a file has twice, 2 the file, 3 a folder with the file twice, 4 one with 3, 2 and 5, 5 an empty one.
BLOCKS = {1: (0, 9), 2: (2, 2, 1, 1), 3: (3, 1, 2, 2, 2), 4: (3, 1, 3, 2, 2, 3, 5), 5: (3,), 7: (2, 1, 1)}


class CountsTest(unittest.TestCase):

    def counted(self, roots, expected, places=8):
        blocks, asked = dict(BLOCKS), list(roots)
        told = counts_of(blocks, asked, places)
        self.assertIsInstance(told, list)
        self.assertEqual(told, expected)
        self.assertEqual((blocks, asked), (BLOCKS, roots))

    def test_walked(self):
        self.counted([5], [0, 0, 0, 0, 0, 1, 0, 0, 0])
        self.counted([2], [0, 2, 1, 0, 0, 0, 0, 0, 0])
        self.counted([3], [0, 2, 2, 1, 0, 0, 0, 0, 0])
        self.counted([4], [0, 2, 3, 1, 1, 1, 0, 0, 0])
        self.counted([4, 7], [0, 3, 3, 1, 1, 1, 0, 1, 0])

    def test_of_no_roots(self):
        self.counted([], [0] * 9)
        self.assertEqual(counts_of({}, [], 20), [0] * 21)

    def test_roots_twice(self):
        self.counted([5, 5, 5], [0, 0, 0, 0, 0, 3, 0, 0, 0])
        self.counted([4, 4], [0, 2, 3, 1, 2, 1, 0, 0, 0])
        self.counted([4, 3, 2, 4], [0, 2, 4, 2, 2, 1, 0, 0, 0])

    def test_a_number_for_each_place(self):
        for places in (8, 20, 400):
            self.counted([2], [0, 2, 1] + [0] * (places - 2), places)

    def test_one_root_more_and_one_less(self):
        nothing = counts_of(BLOCKS, [], 8)
        one = hung(BLOCKS, nothing, 4)
        self.assertEqual(one, [0, 2, 3, 1, 1, 1, 0, 0, 0])
        two = hung(BLOCKS, one, 4)
        self.assertEqual(two, [0, 2, 3, 1, 2, 1, 0, 0, 0])
        self.assertEqual(hung(BLOCKS, two, 2), [0, 2, 4, 1, 2, 1, 0, 0, 0])
        self.assertEqual(let_go(BLOCKS, two, 4), one)
        self.assertEqual(let_go(BLOCKS, one, 4), nothing)
        self.assertEqual(let_go(BLOCKS, counts_of(BLOCKS, [4, 3], 8), 4), counts_of(BLOCKS, [3], 8))
        self.assertEqual(let_go(BLOCKS, counts_of(BLOCKS, [4, 3], 8), 3), counts_of(BLOCKS, [4], 8))

    def test_what_is_handed_in_stays(self):
        blocks, counts = dict(BLOCKS), counts_of(BLOCKS, [4], 8)
        before = list(counts)
        for told in (hung(blocks, counts, 3), let_go(blocks, counts, 4), hung(blocks, counts, 7)):
            self.assertIsInstance(told, list)
            told.append(77)
        self.assertEqual((blocks, counts), (BLOCKS, before))

    def test_again_and_again(self):
        for seed in range(30):
            source = random.Random(seed)
            blocks, places = some_shelf(source)
            most = max(blocks, default=0) + 3
            roots, counts = [], [0] * (most + 1)
            for turn in range(40):
                if roots and source.random() < 0.45:
                    counts = let_go(blocks, counts, roots.pop(source.randrange(len(roots))))
                else:
                    roots.append(source.choice(places))
                    counts = hung(blocks, counts, roots[-1])
                self.assertEqual(counts, counts_of(blocks, roots, most))
                hangers = walked(blocks, roots)
                self.assertEqual(counts, [len(hangers.get(place, ())) for place in range(most + 1)])

    def test_views(self):
        blocks = {}
        view = laid(blocks, folder(a=file(*leaves(64)), b=EMPTY))
        self.assertEqual(counts_of(blocks, [view], len(blocks)), [0] + [1] * len(blocks))

    def test_a_thing_at_very_many_paths(self):
        blocks, place = dense(file((1,)))
        counts = counts_of(blocks, [place], len(blocks))
        self.assertEqual(counts, [0, 1] + [8] * 6 + [1])
        self.assertEqual(hung(blocks, [0] * len(counts), place), counts)
        self.assertEqual(let_go(blocks, counts, place), [0] * len(counts))


if __name__ == "__main__":
    unittest.main()
