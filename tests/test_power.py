"""Power cut in a shelf's deeds (24, 25, 15)."""

import itertools
import random
import unittest

from helper import begun, both_asked, cells, file_deeds, plain_twin, shelf_with, some_call, told
from snapshelf.disk import Disk
from snapshelf.heads import root_content
from snapshelf.mend import spots_in_use
from snapshelf.plainshelf import PlainShelf
from snapshelf.power import after_cut
from snapshelf.shelf import Shelf
from snapshelf.steps import groups_of


def some_cuts(source, steps, many):
    """So many pairs of a group and numbers kept, and each group with none and with all kept."""
    groups = groups_of(steps)
    cuts = []
    for number, puts in enumerate(groups):
        cuts += [(number, []), (number, list(range(len(puts)))), (number, list(reversed(range(len(puts)))))]
    for cut in range(many):
        number = source.randrange(3)
        numbers = range(len(groups[number]))
        cuts.append((number, source.sample(numbers, source.randint(0, len(numbers)))))
    return cuts


def rot_one_copies(source, disk, many):
    """Let one copy of some spots in use rot, so that of each one a copy stays whole."""
    spots = [spot for spot, content in spots_in_use(disk)]
    for spot in source.sample(spots, min(many, len(spots))):
        copy = source.randrange(2)
        other = disk.cell(1 - copy, spot)
        if disk.look(1 - copy, spot) == disk.look(copy, spot) is not None:
            disk.rot(copy, spot, source.choice((None, 5, "rot", (other[0] + 1, other[1]), (1, 2, 3))))


class AfterCutTest(unittest.TestCase):

    def test_a_twin_is_cut_and_the_disk_stays(self):
        disk = Disk(8)
        disk.write(0, 5, (0, 1))
        ahead = cells(disk)
        steps = [("put", 0, 5, (0, 2)), ("put", 1, 5, (0, 2)), ("line",), ("put", 0, 6, (0, 3))]
        other = after_cut(disk, steps, 0, [1])
        self.assertIsInstance(other, Disk)
        self.assertEqual((other.look(0, 5), other.look(1, 5), other.look(0, 6)), ((0, 1), (0, 2), None))
        self.assertEqual(cells(disk), ahead)
        other = after_cut(disk, steps, 1, [])
        self.assertEqual((other.look(0, 5), other.look(1, 5), other.look(0, 6)), ((0, 2), (0, 2), None))
        other = after_cut(disk, steps, 1, [0])
        self.assertEqual(other.look(0, 6), (0, 3))
        other.write(0, 7, (0,))
        self.assertEqual(cells(disk), ahead)
        self.assertEqual(len(steps), 4)

    def test_the_order_of_those_kept(self):
        steps = [("put", 0, 5, (0, 1)), ("put", 0, 5, (0, 2))]
        self.assertEqual(after_cut(Disk(8), steps, 0, [0, 1]).look(0, 5), (0, 2))
        self.assertEqual(after_cut(Disk(8), steps, 0, [1, 0]).look(0, 5), (0, 1))


class CutDeedsTest(unittest.TestCase):

    def check_cut(self, disk, steps, cut, ahead, behind):
        """The disk as it was ahead of the deed, cut so, opens as ahead or as behind; which one."""
        group, kept = cut
        was = cells(disk)
        shelf = Shelf(after_cut(disk, steps, group, kept))
        self.assertEqual(cells(disk), was)
        self.assertEqual(shelf.lost(), [])
        self.assertIn(told(shelf), (ahead, behind))
        if group == 2 and len(kept) > 0:
            self.assertEqual(told(shelf), behind)
        if group < 2:
            self.assertEqual(told(shelf), ahead)
        return told(shelf) == behind

    def run_row(self, seed, rotten):
        source = random.Random(seed)
        shelf, plain = Shelf(begun(70, seed % 2 == 0)), PlainShelf()
        for number in range(60):
            if rotten:
                rot_one_copies(source, shelf.disk, 6)
            disk, ahead, was = shelf.disk.twin(), told(shelf), plain_twin(plain)
            generation = shelf.generation()
            both_asked(shelf, plain, some_call(source, plain))
            if shelf.generation() == generation:
                continue
            steps, behind = shelf.steps(), told(plain)
            cuts = some_cuts(source, steps, 6)
            for cut in cuts:
                self.check_cut(disk, steps, cut, ahead, behind)
            # The next deeds go on behind one of the cuts.
            if source.random() < 0.5:
                group, kept = source.choice(cuts)
                shelf = Shelf(after_cut(disk, steps, group, kept))
                plain = plain if told(shelf) == behind else was

    def test_ahead_or_behind(self):
        for seed in range(6):
            self.run_row(seed, False)

    def test_where_one_copy_of_some_spots_was_spoilt(self):
        for seed in range(6):
            self.run_row(seed, True)

    def test_every_cut_of_one_deed(self):
        for once in (True, False):
            shelf = shelf_with(begun(30, once), ("house", "h", 50), ("do", "h", [("file", ("a",))]))
            disk, ahead = shelf.disk.twin(), told(shelf)
            shelf.do("h", [("put", ("a",), 0, (1,))])
            steps, behind = shelf.steps(), told(shelf)
            groups = groups_of(steps)
            self.assertEqual([len(group) for group in groups], [6, 2, 2])
            for number, puts in enumerate(groups):
                for many in range(4 if number == 0 else 3):
                    for kept in itertools.permutations(range(len(puts)), many):
                        self.check_cut(disk, steps, (number, list(kept)), ahead, behind)
            self.assertTrue(self.check_cut(disk, steps, (2, [1, 0]), ahead, behind))

    def test_with_a_root_that_stands_there_without_its_ledger(self):
        # Were the deed of that root's generation, its ledger would bring that root in force.
        shelf = shelf_with(begun(30, True), ("house", "h", 50), ("do", "h", file_deeds(("a",), 2)), ("snap", "h", "s"))
        for copy in (0, 1):
            shelf.disk.write(copy, 1, root_content(5 + 2 * copy, True, [("x", "house", 2, 5)]))
        disk, ahead = shelf.disk.twin(), told(shelf)
        shelf.drop("s")
        steps, behind = shelf.steps(), told(shelf)
        for cut in some_cuts(random.Random(1), steps, 30):
            self.check_cut(disk, steps, cut, ahead, behind)

    def test_the_same_deed_again_behind_each_cut(self):
        shelf = shelf_with(begun(40, True), ("house", "h", 50), ("do", "h", file_deeds(("a",), 5)))
        disk = shelf.disk.twin()
        deeds = [("put", ("a",), 0, (7,)), ("file", ("b",))]
        shelf.do("h", deeds)
        steps, behind = shelf.steps(), told(shelf)
        for group, kept in some_cuts(random.Random(2), steps, 20):
            other = Shelf(after_cut(disk, steps, group, kept))
            if told(other) != behind:
                other.do("h", deeds)
            self.assertEqual(told(other), behind)
            self.assertEqual(told(Shelf(other.disk)), behind)


if __name__ == "__main__":
    unittest.main()
