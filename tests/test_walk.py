"""The paper of the disk that is made by walking (19)."""

import random
import unittest

from helper import dense, file, some_shelf, walked
from snapshelf.walk import disk_paper


class WalkTest(unittest.TestCase):

    def check(self, blocks, roots):
        """Each place that hangs stands in it once, with all its hangers, the first of them ahead."""
        before, asked = dict(blocks), list(roots)
        paper = disk_paper(blocks, roots)
        self.assertEqual((blocks, roots), (before, asked))
        self.assertIsInstance(paper, list)
        hangers = walked(blocks, roots)
        self.assertEqual(sorted(place for place, row in paper), sorted(hangers))
        ahead = {0}
        for row in paper:
            self.assertIsInstance(row, tuple)
            place, told = row
            self.assertIsInstance(told, tuple)
            self.assertEqual(sorted(told), sorted(hangers[place]))
            self.assertIn(told[0][0], ahead)
            ahead.add(place)
        return paper

    def test_of_no_roots(self):
        self.assertEqual(disk_paper({}, []), [])
        self.assertEqual(disk_paper({1: (3,)}, []), [])

    def test_roots(self):
        self.assertEqual(self.check({1: (3,)}, [1]), [(1, ((0, 0),))])
        self.assertEqual(self.check({1: (3,), 2: (3,)}, [1, 1]), [(1, ((0, 0), (0, 1)))])
        self.assertEqual(self.check({1: (3,), 2: (3,)}, [2, 1]), [(2, ((0, 0),)), (1, ((0, 1),))])

    def test_links(self):
        blocks = {1: (0, 9), 2: (2, 2, 1, 1), 3: (3, 1, 2, 2, 2), 4: (3, 1, 3, 2, 2), 5: (3,)}
        paper = self.check(blocks, [4])
        self.assertEqual(paper[0], (4, ((0, 0),)))
        self.assertEqual({place: set(row) for place, row in paper}, {
            4: {(0, 0)}, 3: {(4, 0)}, 2: {(4, 1), (3, 0), (3, 1)}, 1: {(2, 0), (2, 1)}})
        self.check(blocks, [2, 4, 3])
        self.check(blocks, [1, 5, 4, 5])

    def test_what_hangs_nowhere(self):
        blocks = {1: (0, 9), 2: (2, 1, 1), 3: (3, 1, 2), 4: (3, 1, 3), 5: (0, 9)}
        self.assertEqual(sorted(place for place, row in self.check(blocks, [2])), [1, 2])
        self.assertEqual(sorted(place for place, row in self.check(blocks, [3])), [1, 2, 3])

    def test_a_root_below_another(self):
        blocks = {1: (3,), 2: (3, 1, 1), 3: (3, 1, 2)}
        self.check(blocks, [3, 1])
        self.check(blocks, [1, 3])
        self.check(blocks, [2, 3, 2])

    def test_some_shelves(self):
        for seed in range(60):
            source = random.Random(seed)
            blocks, places = some_shelf(source)
            self.check(blocks, [source.choice(places) for number in range(source.randint(0, 6))])

    def test_a_thing_at_very_many_paths(self):
        blocks, place = dense(file((1,)))
        self.check(blocks, [place])


if __name__ == "__main__":
    unittest.main()
