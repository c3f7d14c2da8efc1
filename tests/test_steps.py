"""Steps, done and cut (15, 2)."""

import itertools
import unittest

from snapshelf.disk import Disk
from snapshelf.steps import cut_steps, do_steps, groups_of

LINE = ("line",)


def put(copy, spot, *content):
    return ("put", copy, spot, content)


FIRST = [put(0, 4, 1), put(1, 4, 1), put(0, 5)]
SECOND = [put(0, 2, 7), put(1, 2, 7)]
THIRD = [put(0, 0, 8), put(1, 0, 9), put(0, 0, 10)]
STEPS = FIRST + [LINE] + SECOND + [LINE] + THIRD


def cells(disk):
    return [disk.cell(copy, spot) for copy in (0, 1) for spot in range(disk.places + 4)]


def written(puts):
    """The cells of a disk on which just these puts were written, in their order."""
    disk = Disk(8)
    for word, copy, spot, content in puts:
        disk.write(copy, spot, content)
    return cells(disk)


def after_cut(steps, group, kept):
    disk = Disk(8)
    cut_steps(disk, steps, group, kept)
    return cells(disk)


class StepsTest(unittest.TestCase):

    def test_groups(self):
        self.assertEqual(groups_of(STEPS), [FIRST, SECOND, THIRD])

    def test_groups_of_few_steps(self):
        self.assertEqual(groups_of([]), [[]])
        self.assertEqual(groups_of([LINE]), [[], []])
        self.assertEqual(groups_of([LINE, LINE]), [[], [], []])
        self.assertEqual(groups_of(FIRST), [FIRST])
        self.assertEqual(groups_of([LINE] + FIRST), [[], FIRST])
        self.assertEqual(groups_of(FIRST + [LINE]), [FIRST, []])
        self.assertEqual(groups_of(FIRST + [LINE, LINE] + SECOND), [FIRST, [], SECOND])

    def test_groups_are_the_askers_own(self):
        steps = list(STEPS)
        groups = groups_of(steps)
        groups[0].clear()
        groups.clear()
        self.assertEqual(steps, STEPS)
        self.assertEqual(groups_of(steps), [FIRST, SECOND, THIRD])

    def test_done(self):
        disk = Disk(8)
        self.assertIsNone(do_steps(disk, STEPS))
        self.assertEqual(cells(disk), written(FIRST + SECOND + THIRD))
        self.assertEqual(disk.look(0, 0), (10,))
        self.assertEqual(disk.look(0, 5), ())

    def test_none_done(self):
        for steps in ([], [LINE], [LINE, LINE]):
            disk = Disk(8)
            do_steps(disk, steps)
            self.assertEqual(cells(disk), written([]))

    def test_cut_in_each_group_with_some_kept_in_some_order(self):
        groups = [FIRST, SECOND, THIRD]
        for group in range(3):
            ahead = [step for one in groups[:group] for step in one]
            for many in range(len(groups[group]) + 1):
                for kept in itertools.permutations(range(len(groups[group])), many):
                    expected = written(ahead + [groups[group][number] for number in kept])
                    self.assertEqual(after_cut(STEPS, group, list(kept)), expected, (group, kept))

    def test_the_order_of_those_kept_counts(self):
        self.assertNotEqual(after_cut(STEPS, 2, [0, 2]), after_cut(STEPS, 2, [2, 0]))

    def test_cut_tells_none(self):
        self.assertIsNone(cut_steps(Disk(8), STEPS, 1, [0]))

    def test_cut_in_groups_without_puts(self):
        steps = [LINE] + FIRST + [LINE, LINE] + SECOND
        self.assertEqual(after_cut(steps, 0, []), written([]))
        self.assertEqual(after_cut(steps, 1, [1]), written(FIRST[1:2]))
        self.assertEqual(after_cut(steps, 2, []), written(FIRST))
        self.assertEqual(after_cut(steps, 3, [1]), written(FIRST + SECOND[1:]))
        self.assertEqual(after_cut([], 0, []), written([]))

    def test_what_is_handed_in_stays(self):
        steps, kept = list(STEPS), [2, 0]
        do_steps(Disk(8), steps)
        cut_steps(Disk(8), steps, 2, kept)
        self.assertEqual(steps, STEPS)
        self.assertEqual(kept, [2, 0])

    def test_what_stood_there_is_written_over(self):
        disk = Disk(8)
        disk.rot(0, 4, "rot")
        disk.write(1, 9, (5,))
        do_steps(disk, STEPS)
        self.assertEqual(disk.look(0, 4), (1,))
        self.assertEqual(disk.look(1, 9), (5,))


if __name__ == "__main__":
    unittest.main()
