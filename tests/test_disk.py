"""Sums, cells and the disk (14, 2)."""

import unittest

from helper import WHATEVER
from snapshelf.disk import Disk
from snapshelf.errors import Lost
from snapshelf.sums import cell_of, is_right, sum_of

CONTENTS = ((), (0,), (1,), (0, 1, 2, 255), (2, 5, 10, 11), (3, 28, 400), (2147483647,), (10 ** 30, 7), tuple(range(401)))
SPOTS = (0, 1, 2, 3, 4, 5, 100, 403)


def reckoned(spot, content):
    """The sum, without the rest being taken on the way."""
    total, power = 0, 1
    for number in reversed(content):
        total += (number + 1) * power
        power *= 65599
    return (total + (spot + 1) * power) % 2147483647 if content else spot + 1


class SumsTest(unittest.TestCase):

    def test_sums(self):
        for spot in SPOTS:
            for content in CONTENTS:
                self.assertEqual(sum_of(spot, content), reckoned(spot, content))

    def test_sums_reckoned_by_hand(self):
        self.assertEqual(sum_of(0, ()), 1)
        self.assertEqual(sum_of(7, ()), 8)
        self.assertEqual(sum_of(0, (0,)), 65600)
        self.assertEqual(sum_of(3, (5,)), 4 * 65599 + 6)
        self.assertEqual(sum_of(0, (0, 0)), (65600 * 65599 + 1) % 2147483647)

    def test_cells(self):
        for spot in SPOTS:
            for content in CONTENTS:
                self.assertEqual(cell_of(spot, content), (reckoned(spot, content), content))
                self.assertIs(is_right(spot, cell_of(spot, content)), True)

    def test_not_right_at_another_spot_or_with_another_sum(self):
        for content in CONTENTS:
            total = sum_of(9, content)
            self.assertIs(is_right(10, (total, content)), False)
            self.assertIs(is_right(9, (total + 1, content)), False)
            self.assertIs(is_right(9, (total + 2147483647, content)), False)
            self.assertIs(is_right(9, (total, content + (0,))), False)

    def test_other_shapes_are_not_right(self):
        total = sum_of(4, (1, 2))
        for cell in (
            [total, (1, 2)], (total, [1, 2]), (total, (1, 2), ()), (total,), ((1, 2), total), (total, 1, 2), total, (1, 2), (),
            (str(total), (1, 2)), (None, (1, 2)), (total, None), (total, "12"), (total, {1: 2}), ((total,), (1, 2)), {},
        ):
            self.assertIs(is_right(4, cell), False, cell)

    def test_true_is_no_number(self):
        self.assertIs(is_right(0, (1, ())), True)
        self.assertIs(is_right(0, (True, ())), False)
        self.assertIs(is_right(0, (sum_of(0, (1,)), (True,))), False)
        self.assertIs(is_right(0, (sum_of(0, (0,)), (False,))), False)

    def test_numbers_below_nought_are_no_content(self):
        self.assertIs(is_right(4, (5 * 65599, (-1,))), False)
        self.assertIs(is_right(4, (reckoned(4, (3, -2)), (3, -2))), False)

    def test_whatever_is_handed_in(self):
        for one in WHATEVER:
            self.assertIs(is_right(0, one), False, one)
            self.assertIs(is_right(0, (one, ())), False)
            self.assertIs(is_right(0, (1, one)), False)
            self.assertIs(is_right(0, (1, (one,))), False)


class DiskTest(unittest.TestCase):

    def test_none_at_first(self):
        for places in (8, 400):
            disk = Disk(places)
            self.assertEqual(disk.places, places)
            for spot in range(places + 4):
                for copy in (0, 1):
                    self.assertIsNone(disk.cell(copy, spot))
                    self.assertIsNone(disk.look(copy, spot))
                self.assertRaises(Lost, disk.read, spot)

    def test_written_at_each_spot_and_copy(self):
        disk = Disk(8)
        for spot in range(12):
            for copy in (0, 1):
                self.assertIsNone(disk.write(copy, spot, (spot, copy)))
        for spot in range(12):
            for copy in (0, 1):
                self.assertEqual(disk.look(copy, spot), (spot, copy))
                self.assertEqual(disk.cell(copy, spot), cell_of(spot, (spot, copy)))
            self.assertEqual(disk.read(spot), (spot, 0))

    def test_a_write_touches_nothing_else(self):
        disk = Disk(8)
        disk.write(1, 5, (7,))
        for spot in range(12):
            for copy in (0, 1):
                self.assertEqual(disk.look(copy, spot), (7,) if (copy, spot) == (1, 5) else None)

    def test_written_over(self):
        disk = Disk(8)
        disk.write(0, 4, (1,))
        disk.write(0, 4, ())
        self.assertEqual(disk.look(0, 4), ())
        self.assertEqual(disk.read(4), ())
        self.assertEqual(disk.cell(0, 4), (5, ()))

    def test_read_takes_the_first_right_copy(self):
        for spot in (0, 1, 2, 3, 4, 11):
            disk = Disk(8)
            disk.write(1, spot, (2,))
            self.assertEqual(disk.read(spot), (2,))
            disk.write(0, spot, (1,))
            self.assertEqual(disk.read(spot), (1,))
            disk.rot(0, spot, None)
            self.assertEqual(disk.read(spot), (2,))
            disk.rot(1, spot, "rot")
            self.assertRaises(Lost, disk.read, spot)
            disk.write(0, spot, (3,))
            self.assertEqual(disk.read(spot), (3,))

    def test_rot(self):
        disk = Disk(8)
        for cell in (None, 0, 5, -1, "", "rot", (), (5,), (6, ()), (5, (1,)), (5, ("a",)), (5, ()) + (1,), (True, ()), (5, None)):
            disk.write(0, 4, (1,))
            self.assertIsNone(disk.rot(0, 4, cell))
            self.assertEqual(disk.cell(0, 4), cell)
            self.assertIs(disk.cell(0, 4).__class__, cell.__class__)
            self.assertIsNone(disk.look(0, 4))
            self.assertRaises(Lost, disk.read, 4)

    def test_what_is_right_elsewhere_is_not_right_here(self):
        disk = Disk(8)
        disk.rot(0, 4, cell_of(5, (1, 2)))
        self.assertIsNone(disk.look(0, 4))

    def test_a_rotten_row_is_kept_as_it_was_put(self):
        disk, row = Disk(8), (1, [2, {"a": [3]}])
        disk.rot(1, 6, row)
        row[1][1]["a"].append(4)
        row[1].append(5)
        self.assertEqual(disk.cell(1, 6), (1, [2, {"a": [3]}]))
        disk.cell(1, 6)[1].clear()
        self.assertEqual(disk.cell(1, 6), (1, [2, {"a": [3]}]))
        self.assertEqual(row, (1, [2, {"a": [3, 4]}, 5]))

    def test_twin(self):
        disk = Disk(9)
        disk.write(0, 4, (1,))
        disk.write(1, 4, (2,))
        disk.rot(0, 12, "rot")
        twin = disk.twin()
        self.assertIsInstance(twin, Disk)
        self.assertEqual(twin.places, 9)
        for spot in range(13):
            for copy in (0, 1):
                self.assertEqual(twin.cell(copy, spot), disk.cell(copy, spot))
        twin.write(0, 4, (9,))
        disk.write(1, 5, (8,))
        disk.rot(1, 4, None)
        self.assertEqual(disk.look(0, 4), (1,))
        self.assertEqual(twin.look(0, 4), (9,))
        self.assertEqual(twin.look(1, 4), (2,))
        self.assertIsNone(twin.cell(1, 5))

    def test_two_disks_are_apart(self):
        first, second = Disk(8), Disk(8)
        first.write(0, 4, (1,))
        self.assertIsNone(second.cell(0, 4))


if __name__ == "__main__":
    unittest.main()
