"""A disk begun, and its newest root (21)."""

import unittest

from helper import refusal
from snapshelf.disk import Disk
from snapshelf.heads import ledger_content, root_content
from snapshelf.opening import begin, newest
from snapshelf.sums import cell_of

ROWS = [("home", "house", 3, 100), ("monday", "snap", 8, "home")]


def cells(disk):
    """All cells of the disk."""
    return [[disk.cell(copy, spot) for spot in range(disk.places + 4)] for copy in (0, 1)]


def counts_like(number, places):
    """Counts that tell generations apart."""
    return [0] + [number % 7] * places


def put_root(disk, generation, rows=(), once=True, copies=(0, 1), spot=None):
    """Write a root of that generation."""
    for copy in copies:
        disk.write(copy, generation % 2 if spot is None else spot, root_content(generation, once, list(rows)))


def put_ledger(disk, generation, copies=(0, 1), spot=None, places=None):
    """Write the ledger of that generation."""
    many = disk.places if places is None else places
    for copy in copies:
        disk.write(copy, 2 + generation % 2 if spot is None else spot, ledger_content(generation, counts_like(generation, many)))


def put_both(disk, generation, rows=(), once=True):
    """Write a root and its ledger."""
    put_root(disk, generation, rows, once)
    put_ledger(disk, generation)


class BeginTest(unittest.TestCase):

    def test_begun(self):
        for places in (8, 9, 400):
            for once in (True, False):
                disk = Disk(places)
                self.assertIsNone(begin(disk, once))
                self.assertEqual(newest(disk), (1, once, [], [0] * (places + 1)))
                self.assertIs(newest(disk)[1], once)
                for copy in (0, 1):
                    self.assertEqual(disk.cell(copy, 1), cell_of(1, (1, 1 if once else 0)))
                    self.assertEqual(disk.cell(copy, 3), cell_of(3, (1,) + (0,) * places))
                    for spot in [0, 2] + list(range(4, places + 4)):
                        self.assertIsNone(disk.cell(copy, spot))

    def test_begun_anew(self):
        disk = Disk(8)
        for copy in (0, 1):
            for spot in range(12):
                disk.write(copy, spot, (copy, spot))
        disk.rot(0, 2, "x")
        put_both(disk, 6, ROWS)
        put_both(disk, 7, ROWS)
        begin(disk, False)
        fresh = Disk(8)
        begin(fresh, False)
        self.assertEqual(cells(disk), cells(fresh))
        self.assertEqual(newest(disk), (1, False, [], [0] * 9))


class NewestTest(unittest.TestCase):

    def disk(self):
        """A disk with generations 4 and 5."""
        disk = Disk(8)
        begin(disk, True)
        put_both(disk, 4, ROWS[:1], False)
        put_both(disk, 5, ROWS)
        return disk

    def tells(self, disk, generation, rows, once=True):
        before = cells(disk)
        told = newest(disk)
        self.assertIsInstance(told, tuple)
        self.assertEqual(told, (generation, once, list(rows), counts_like(generation, disk.places)))
        self.assertIs(told[1], once)
        self.assertIsInstance(told[2], list)
        self.assertIsInstance(told[3], list)
        self.assertEqual(cells(disk), before)

    def elder(self, disk):
        self.tells(disk, 4, ROWS[:1], False)

    def test_the_greater_generation(self):
        self.tells(self.disk(), 5, ROWS)
        disk = self.disk()
        put_both(disk, 6)
        self.tells(disk, 6, [])
        put_both(disk, 11, ROWS)
        self.tells(disk, 11, ROWS)
        put_both(disk, 8)
        self.tells(disk, 11, ROWS)

    def test_what_is_told_is_the_askers_own(self):
        disk = self.disk()
        told = newest(disk)
        told[2].clear()
        told[3].clear()
        self.tells(disk, 5, ROWS)

    def test_one_copy_spoilt(self):
        for copy in (0, 1):
            for spot in (1, 3):
                for cell in (None, 7, "x", (1, (5, 1))):
                    disk = self.disk()
                    disk.rot(copy, spot, cell)
                    self.tells(disk, 5, ROWS)
                    disk.rot(1 - copy, 4 - spot, cell)
                    self.tells(disk, 5, ROWS)

    def test_both_copies_spoilt(self):
        for spot in (1, 3):
            disk = self.disk()
            disk.rot(0, spot, None)
            disk.rot(1, spot, (1, (5, 1)))
            self.elder(disk)
            disk.rot(0, 0, None)
            self.elder(disk)
            disk.rot(1, 2, None)
            self.elder(disk)
            disk.rot(1, 0, 9)
            self.assertEqual(refusal(newest, disk), "NoDisk")

    def test_both_copies_of_the_elder_spoilt(self):
        for spot in (0, 2):
            disk = self.disk()
            disk.rot(0, spot, None)
            disk.rot(1, spot, None)
            self.tells(disk, 5, ROWS)

    def test_the_copies_of_two_generations(self):
        # As when power is cut between the two puts of a root, or of a ledger.
        disk = self.disk()
        put_ledger(disk, 6)
        put_root(disk, 6, [], True, [0])
        self.tells(disk, 6, [])
        disk = self.disk()
        put_ledger(disk, 6)
        put_root(disk, 6, [], True, [1])
        self.tells(disk, 6, [])
        for copy in (0, 1):
            disk = self.disk()
            put_ledger(disk, 6, [copy])
            self.tells(disk, 5, ROWS)
            put_root(disk, 6)
            self.tells(disk, 6, [])
            # The root of 4 is still good with the ledger's other copy where those of 6 and 5 are gone.
            disk = self.disk()
            put_ledger(disk, 6, [copy])
            disk.rot(0, 1, None)
            disk.rot(1, 1, None)
            self.elder(disk)

    def test_a_root_whose_ledger_is_the_others(self):
        for copy in (0, 1):
            disk = self.disk()
            put_ledger(disk, 6)
            put_root(disk, 6, [], True, [copy])
            disk.rot(copy, 0, None)
            self.tells(disk, 5, ROWS)

    def test_the_spot_of_the_other_parity(self):
        disk = self.disk()
        put_root(disk, 7, spot=0)
        put_ledger(disk, 7)
        self.assertEqual(refusal(newest, disk), "NoDisk")
        disk = self.disk()
        put_root(disk, 7, spot=0)
        self.tells(disk, 5, ROWS)
        disk = self.disk()
        put_root(disk, 6, spot=1)
        put_ledger(disk, 6, spot=3)
        self.elder(disk)
        disk = self.disk()
        put_root(disk, 6, spot=1)
        put_ledger(disk, 6)
        self.assertEqual(refusal(newest, disk), "NoDisk")
        disk = self.disk()
        put_root(disk, 6)
        put_ledger(disk, 6, spot=3)
        self.assertEqual(refusal(newest, disk), "NoDisk")

    def test_a_place_beyond_the_disks(self):
        for place, expected in ((8, 6), (9, 5), (400, 5), (1, 6)):
            for rows in ([("x", "house", place, 5)], ROWS + [("x", "snap", place, "home")], [("x", "snap", place, "a")] + ROWS):
                disk = self.disk()
                put_both(disk, 6, rows)
                self.tells(disk, expected, rows if expected == 6 else ROWS)

    def test_what_is_no_root(self):
        for content in ((), (6,), (6, 2), (6, 1, 1), (6, 1, 1, 0, 0, 5), (6, 1, 1, 0, 5, 501), (6, 1, 27, 0, 5, 5), (0, 1)):
            disk = self.disk()
            put_ledger(disk, 6)
            for copy in (0, 1):
                disk.write(copy, 0, content)
            self.tells(disk, 5, ROWS)

    def test_a_ledger_of_another_generation(self):
        for other in (4, 8, 5, 2):
            disk = self.disk()
            put_root(disk, 6)
            put_ledger(disk, other, spot=2)
            self.tells(disk, 5, ROWS)
        disk = self.disk()
        put_root(disk, 6)
        put_ledger(disk, 6, [1])
        self.tells(disk, 6, [])

    def test_a_ledger_of_another_number_of_places(self):
        for places in (7, 9, 0, 400):
            disk = self.disk()
            put_root(disk, 6)
            put_ledger(disk, 6, places=places)
            self.tells(disk, 5, ROWS)
            put_ledger(disk, 6, [1])
            self.tells(disk, 6, [])

    def test_no_disk(self):
        for places in (8, 400):
            self.assertEqual(refusal(newest, Disk(places)), "NoDisk")
        disk = Disk(8)
        put_root(disk, 1)
        self.assertEqual(refusal(newest, disk), "NoDisk")
        put_ledger(disk, 3)
        self.assertEqual(refusal(newest, disk), "NoDisk")
        put_ledger(disk, 1, [1])
        self.tells(disk, 1, [])
        before = cells(disk)
        disk.rot(1, 3, None)
        refusal(newest, disk)
        before[1][3] = None
        self.assertEqual(cells(disk), before)


if __name__ == "__main__":
    unittest.main()
