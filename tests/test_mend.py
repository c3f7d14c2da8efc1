"""Spots in use, and mending (28); the checker of a mend's paper (29)."""

import unittest

from helper import WHATEVER, begun, both_asked, cells, file_deeds, long_row, refusal, shelf_with, some_call, told
from snapshelf.disk import Disk
from snapshelf.heads import ledger_content, root_content
from snapshelf.lostpaths import lost_paths
from snapshelf.mend import cells_of, mended, spots_in_use
from snapshelf.mendcheck import mend_holds
from snapshelf.opening import newest
from snapshelf.power import after_cut
from snapshelf.shelf import Shelf
from snapshelf.sums import cell_of


def sample(once=True):
    """A shelf of generation 4, whose root and ledger stand at spots 0 and 2."""
    return shelf_with(begun(40, once), ("house", "h", 50), ("do", "h", file_deeds(("a",), 5)), ("snap", "h", "s"))


def due_spots(shelf):
    """The spots in use of a whole shelf, told from what the shelf tells."""
    generation = shelf.generation()
    pairs = [
        (generation % 2, root_content(generation, shelf.once(), newest(shelf.disk)[2])),
        (2 + generation % 2, ledger_content(generation, shelf.counts())),
    ]
    return sorted(pairs + [(3 + place, content) for place, content in shelf.blocks().items()])


class SpotsTest(unittest.TestCase):

    def test_of_a_whole_shelf(self):
        for once in (True, False):
            shelf = sample(once)
            self.assertEqual(spots_in_use(shelf.disk), due_spots(shelf))
        self.assertEqual(spots_in_use(begun(8, False)), [(1, (1, 0)), (3, (1,) + (0,) * 8)])

    def test_long_rows(self):
        for seed in range(4):
            source, shelf, plain = long_row(seed, 80, 0)
            for number in range(60):
                both_asked(shelf, plain, some_call(source, plain))
                self.assertEqual(spots_in_use(shelf.disk), due_spots(shelf))

    def test_those_that_cannot_be_read_too(self):
        shelf = sample()
        due = due_spots(shelf)
        spot = due[-1][0]
        shelf.disk.rot(0, spot, None)
        self.assertEqual(spots_in_use(shelf.disk), due)
        shelf.disk.rot(1, spot, "rot")
        self.assertEqual(len(Shelf(shelf.disk).lost()), 1)
        told_spots = spots_in_use(shelf.disk)
        self.assertIn((spot, None), told_spots)
        hurt = Shelf(shelf.disk)
        places = [spot - 3 for spot, content in told_spots if spot > 3]
        self.assertEqual(places, sorted(list(hurt.blocks()) + hurt.lost()))

    def test_of_the_newest_root_only(self):
        disk = begun(30, True)
        shelf = shelf_with(disk, ("house", "h", 50), ("do", "h", [("file", ("a",))]))
        due = due_spots(shelf)
        shelf.do("h", file_deeds(("b",), 3))
        later = due_spots(shelf)
        self.assertEqual(spots_in_use(disk), later)
        for copy in (0, 1):
            disk.rot(copy, shelf.generation() % 2, None)
        self.assertEqual(spots_in_use(disk), due)

    def test_no_disk(self):
        disk = Disk(8)
        self.assertEqual(refusal(spots_in_use, disk), "NoDisk")
        disk.write(0, 5, (0,))
        ahead = cells(disk)
        self.assertEqual(refusal(mended, disk), "NoDisk")
        self.assertEqual(cells(disk), ahead)

    def test_cells(self):
        disk = Disk(8)
        self.assertEqual(cells_of(disk), ([None] * 12, [None] * 12))
        disk.write(0, 5, (0, 1))
        disk.rot(1, 11, ("x", [1]))
        first, second = cells_of(disk)
        self.assertIsInstance(cells_of(disk), tuple)
        self.assertEqual((first[5], second[11], len(first), len(second)), (cell_of(5, (0, 1)), ("x", [1]), 12, 12))
        second[11][1].append(2)
        first.clear()
        self.assertEqual(cells_of(disk)[1][11], ("x", [1]))
        self.assertEqual(len(cells_of(disk)[0]), 12)


class MendTest(unittest.TestCase):

    def mend(self, disk):
        """Mend the disk; the paper, which holds."""
        spots, ahead = spots_in_use(disk), cells_of(disk)
        paper = mended(disk)
        self.assertTrue(mend_holds(paper, ahead, cells_of(disk), spots))
        self.assertEqual([spot for spot, fate in paper], [spot for spot, content in spots])
        return dict(paper)

    def test_a_whole_disk_stays(self):
        disk = sample().disk
        ahead = cells(disk)
        self.assertEqual(set(self.mend(disk).values()), {0})
        self.assertEqual(cells(disk), ahead)

    def test_each_fate_at_root_ledger_and_block(self):
        shelf = sample()
        whole = cells(shelf.disk)
        block = due_spots(shelf)[5][0]
        for spot in (0, 2, block):
            for copy in (0, 1):
                for cell in (None, 7, "x", (5, (1, 2)), (True, (1,)), whole[0][spot][:1]):
                    disk = shelf.disk.twin()
                    disk.rot(copy, spot, cell)
                    paper = self.mend(disk)
                    self.assertEqual([paper[spot], sum(paper.values())], [1 + copy, 1 + copy])
                    self.assertEqual(cells(disk), whole)
        disk = shelf.disk.twin()
        disk.rot(0, block, None)
        disk.rot(1, block, 5)
        ahead = cells(disk)
        self.assertEqual(self.mend(disk)[block], 3)
        self.assertEqual(cells(disk), ahead)

    def test_what_is_not_in_use_stays(self):
        shelf = sample()
        used = dict(due_spots(shelf))
        for spot in range(44):
            if spot not in used:
                shelf.disk.rot(spot % 2, spot, ("rot", spot))
        ahead = cells(shelf.disk)
        self.assertEqual(sum(self.mend(shelf.disk).values()), 0)
        self.assertEqual(cells(shelf.disk), ahead)

    def test_right_with_another_content(self):
        shelf = sample()
        block, content = due_spots(shelf)[5]
        cases = [(2, 1, ledger_content(2, [0] * 41)), (0, 1, root_content(2, True, [])), (0, 0, root_content(2, True, []))]
        # Of a block it is the first copy that read tells.
        cases += [(2, 0, ledger_content(2, [0] * 41)), (block, 1, (0, 200)), (block, 0, content)]
        for spot, copy, other in cases:
            disk = shelf.disk.twin()
            disk.write(copy, spot, other)
            due = cells(shelf.disk)
            paper = self.mend(disk)
            self.assertEqual(paper[spot], 0 if other == content else 1 + copy)
            self.assertEqual(cells(disk), due)
        disk = shelf.disk.twin()
        disk.write(0, block, (0, 200))
        self.assertEqual(self.mend(disk)[block], 2)
        self.assertEqual((disk.look(0, block), disk.look(1, block)), ((0, 200), (0, 200)))

    def test_right_with_what_is_no_block(self):
        shelf = sample()
        block = due_spots(shelf)[5][0]
        whole = shelf.disk.look(1, block)
        for first, second, fate in (((9,), (9,), 0), (None, (9,), 1), ((9,), None, 2), ((9,), (8,), 2), ((9,), whole, 2)):
            disk = shelf.disk.twin()
            for copy, content in enumerate((first, second)):
                disk.rot(copy, block, None)
                if content is not None:
                    disk.write(copy, block, content)
            self.assertEqual(dict(spots_in_use(disk))[block], None)
            self.assertEqual(self.mend(disk)[block], fate)
            self.assertEqual((disk.look(0, block), disk.look(1, block)), ((9,), (9,)))
            self.assertEqual(Shelf(disk).lost(), [block - 3])

    def test_behind_a_cut(self):
        shelf = sample()
        disk = shelf.disk.twin()
        shelf.do("h", [("put", ("a",), 0, (9,))])
        cut = after_cut(disk, shelf.steps(), 2, [1])
        paper = self.mend(cut)
        self.assertEqual((paper[1], paper[3]), (1, 0))
        self.assertEqual(cells(cut), cells(shelf.disk))
        cut = after_cut(disk, shelf.steps(), 1, [1])
        self.assertEqual(sum(self.mend(cut).values()), 0)

    def test_with_one_copy_of_each_spot_whole_all_comes_back(self):
        for seed in range(6):
            source, shelf, plain = long_row(seed, 80, 50)
            disk = shelf.disk.twin()
            for spot, content in spots_in_use(disk):
                disk.rot(source.randrange(2), spot, source.choice((None, 3, "x", (1, (2,)), (None, [True]))))
            paper = self.mend(disk)
            self.assertTrue(set(paper.values()) <= {1, 2})
            self.assertEqual(told(Shelf(disk)), told(plain))
            for spot, content in spots_in_use(disk):
                self.assertEqual((disk.look(0, spot), disk.look(1, spot)), (content, content))

    def test_with_both_gone_of_some(self):
        for seed in range(6):
            source, shelf, plain = long_row(seed, 80, 50)
            disk = shelf.disk
            blocks = sorted(shelf.blocks())
            for place in source.sample(blocks, min(2, len(blocks))):
                disk.rot(0, 3 + place, None)
                disk.rot(1, 3 + place, None)
            hurt = Shelf(disk)
            paths = lost_paths(hurt)
            paper = self.mend(disk)
            self.assertEqual([spot - 3 for spot in paper if paper[spot] == 3], hurt.lost())
            self.assertEqual(lost_paths(Shelf(disk)), paths)


class MendCheckTest(unittest.TestCase):

    def setUp(self):
        """A mend with each fate, and spots beside those in use that hold whatever it is."""
        shelf = sample()
        self.disk = shelf.disk
        spots = [spot for spot, content in due_spots(shelf)]
        self.disk.rot(0, 0, None)
        self.disk.rot(1, 2, (1, 2))
        self.disk.rot(0, spots[4], "x")
        self.disk.rot(1, spots[5], (1, [0, 1], {"a": 1}))
        self.disk.rot(0, spots[6], 1)
        self.disk.rot(1, spots[6], (1, (0, 1)))
        free = [spot for spot in range(4, 44) if spot not in spots]
        for number, cell in enumerate((1, True, (1, 0), (0, (1, [0])), "1", ({"a": 1},), (None, False))):
            self.disk.rot(0, free[number], cell)
        self.free = free
        self.spots = spots_in_use(self.disk)
        self.ahead = cells_of(self.disk)
        self.paper = mended(self.disk)
        self.behind = cells_of(self.disk)
        self.assertEqual(set(dict(self.paper).values()), {0, 1, 2, 3})

    def holds(self, paper=None, ahead=None, behind=None, spots=None):
        answer = mend_holds(
            self.paper if paper is None else paper, ahead or self.ahead, behind or self.behind, self.spots if spots is None else spots
        )
        self.assertIn(answer, (True, False))
        self.assertIsInstance(answer, bool)
        return answer

    def bent(self, which, copy, spot, cell):
        """Cells with that one in the stead of the one at the spot."""
        lists = [list(one) for one in which]
        lists[copy][spot] = cell
        return tuple(lists)

    def test_what_a_mend_tells(self):
        self.assertTrue(self.holds())

    def test_of_nothing_in_use(self):
        cells_of_none = ([None, 5], [None, True])
        self.assertTrue(self.holds([], cells_of_none, cells_of_none, []))
        self.assertFalse(self.holds([], cells_of_none, ([None, 5], [None, 1]), []))
        self.assertFalse(self.holds([(0, 3)], cells_of_none, cells_of_none, []))

    def test_spots(self):
        for at in range(len(self.paper)):
            self.assertFalse(self.holds(self.paper[:at] + self.paper[at + 1:]))
            self.assertFalse(self.holds(self.paper[:at] + [self.paper[at]] + self.paper[at:]))
            self.assertFalse(self.holds(self.paper[:at] + [(self.free[0], self.paper[at][1])] + self.paper[at + 1:]))
        self.assertFalse(self.holds(sorted(self.paper + [(self.free[0], 3)])))
        self.assertFalse(self.holds(list(reversed(self.paper))))
        self.assertFalse(self.holds(self.paper[1:2] + self.paper[:1] + self.paper[2:]))
        self.assertFalse(self.holds(self.paper + [(99, 0)]))
        self.assertFalse(self.holds(self.paper, spots=self.spots[:-1]))

    def test_fates(self):
        for at, (spot, fate) in enumerate(self.paper):
            for other in (0, 1, 2, 3, 4, -1, None, str(fate), bool(fate), (fate,), [fate]):
                if repr(other) == repr(fate):
                    continue
                self.assertFalse(self.holds(self.paper[:at] + [(spot, other)] + self.paper[at + 1:]), (spot, fate, other))

    def test_cells_behind(self):
        for copy in (0, 1):
            for spot in range(44):
                for cell in (None, 9, "y", (), [], self.ahead[copy][spot], self.ahead[1 - copy][spot], self.behind[1 - copy][spot]):
                    same = repr(cell) == repr(self.behind[copy][spot])
                    self.assertEqual(self.holds(behind=self.bent(self.behind, copy, spot, cell)), same, (copy, spot, cell))

    def test_true_is_not_one_nor_false_nought(self):
        cases = ((0, True), (1, 1), (2, (True, 0)), (2, (1, False)), (3, (0, (True, [0]))), (3, (0, (1, [False]))),
                 (5, ({"a": True},)), (6, (None, 0)))
        for number, cell in cases:
            spot = self.free[number]
            self.assertEqual(self.behind[0][spot], cell)
            self.assertFalse(self.holds(behind=self.bent(self.behind, 0, spot, cell)), cell)
        for spot, fate in self.paper:
            for copy in (0, 1):
                cell = self.behind[copy][spot]
                if fate < 3:
                    numbers = tuple(bool(number) if number < 2 else number for number in cell[1])
                    other = (cell[0], numbers)
                    self.assertEqual(cell, other)
                    self.assertEqual(self.holds(behind=self.bent(self.behind, copy, spot, other)), repr(cell) == repr(other))

    def test_another_kind_of_row_within_a_cell(self):
        for number, cell in ((2, [1, 0]), (3, (0, (1, (0,)))), (3, (0, [1, [0]])), (5, ([("a", 1)],)), (5, ({"b": 1},)), (5, ({},)), (5, ({"a": 1, "b": 1},))):
            self.assertFalse(self.holds(behind=self.bent(self.behind, 0, self.free[number], cell)), cell)
        spot, fate = self.paper[0]
        cell = self.behind[0][spot]
        self.assertFalse(self.holds(behind=self.bent(self.behind, 0, spot, (cell[0], list(cell[1])))))

    def test_cells_too_few_or_too_many(self):
        first, second = self.behind
        self.assertFalse(self.holds(behind=(first[:-1], second)))
        self.assertFalse(self.holds(behind=(first, second + [None])))

    def test_a_mend_that_did_nothing_or_too_much(self):
        self.assertFalse(self.holds(behind=self.ahead))
        self.assertFalse(self.holds(ahead=self.behind))
        free = self.free[0]
        self.assertFalse(self.holds(behind=self.bent(self.behind, 1, free, self.behind[0][free])))

    def test_fates_by_the_told_content(self):
        first, second = cell_of(5, (0, 1)), cell_of(5, (0, 2))
        wrong = (first[0] + 1, first[1])
        # content, the cells, and the fate they say
        cases = [
            ((0, 1), first, first, 0), ((0, 1), first, second, 2), ((0, 2), first, second, 1), ((0, 3), first, second, 3),
            ((0, 1), first, None, 2), ((0, 1), wrong, first, 1), ((0, 1), wrong, wrong, 3), ((0, 2), first, first, 3),
            (None, first, first, 0), (None, first, second, 2), (None, second, first, 2), (None, None, second, 1),
            (None, wrong, second, 1), (None, first, wrong, 2), (None, wrong, None, 3), (None, None, None, 3),
            ((0, 1), cell_of(6, (0, 1)), first, 1), (None, cell_of(6, (0, 1)), first, 1), (None, [first[0], first[1]], first, 1),
            (None, (True, ()), first, 1), ((), cell_of(5, ()), None, 2), (None, cell_of(5, ()), first, 2),
        ]
        for content, one, other, due in cases:
            ahead = ([None] * 5 + [one], [None] * 5 + [other])
            mended_cells = {0: (one, other), 1: (other, other), 2: (one, one), 3: (one, other)}[due]
            behind = tuple([None] * 5 + [cell] for cell in mended_cells)
            for fate in range(4):
                self.assertEqual(mend_holds([(5, fate)], ahead, behind, [(5, content)]), fate == due, (content, one, other, fate))

    def test_whatever_is_handed_in(self):
        for one in WHATEVER + (0, "", (), tuple(self.paper), {5: 0}, [self.paper], [list(row) for row in self.paper]):
            self.assertFalse(self.holds([one]))
            if one != []:
                self.assertFalse(mend_holds(one, self.ahead, self.behind, self.spots))
            self.assertFalse(self.holds(self.paper + [one]))
            self.assertFalse(self.holds([one] + self.paper[1:]))
        self.assertFalse(self.holds([]))
        row = self.paper[0]
        for one in (row + (0,), row[:1], list(row), (str(row[0]), row[1]), (None, row[1]), (False, row[1])):
            self.assertFalse(self.holds([one] + self.paper[1:]), one)


if __name__ == "__main__":
    unittest.main()
