"""The checker of a paper of the disk (19)."""

import copy
import random
import unittest

from helper import WHATEVER, dense, file, folder, laid, leaves, nested, some_shelf, walked
from snapshelf.counts import counts_of
from snapshelf.diskcheck import disk_holds
from snapshelf.walk import disk_paper

# 1 a leaf that a file has twice, 2 the file, 3 a folder with the file twice, 4 one with 3, 2 and 5, 5 an empty one.
BLOCKS = {1: (0, 9), 2: (2, 2, 1, 1), 3: (3, 1, 2, 2, 2), 4: (3, 1, 3, 2, 2, 3, 5), 5: (3,), 6: (0, 9), 7: (3, 1, 5)}
ROOTS = [4, 3, 4]
COUNTS = [0, 2, 3, 2, 2, 1, 0, 0, 0]
PAPER = [
    (4, ((0, 0), (0, 2))), (3, ((0, 1), (4, 0))), (2, ((4, 1), (3, 0), (3, 1))), (5, ((4, 2),)), (1, ((2, 0), (2, 1))),
]


class DiskCheckTest(unittest.TestCase):

    def holds(self, paper, expected=True, blocks=BLOCKS, roots=ROOTS, counts=COUNTS, once=True):
        handed = (paper, blocks, roots, counts)
        before = copy.deepcopy(handed)
        self.assertIs(disk_holds(paper, blocks, roots, counts, once), expected, paper)
        self.assertEqual(handed, before)

    def bent(self, *papers):
        """Papers that don't hold, whether blocks are kept once or not."""
        for paper in papers:
            self.holds(paper, False, once=True)
            self.holds(paper, False, once=False)

    def with_row(self, number, row):
        return PAPER[:number] + [row] + PAPER[number + 1:]


class HoldsTest(DiskCheckTest):

    def test_made_by_walking(self):
        self.assertEqual(counts_of(BLOCKS, ROOTS, 8), COUNTS)
        for once in (True, False):
            self.holds(disk_paper(BLOCKS, ROOTS), once=once)
            self.holds(PAPER, once=once)

    def test_of_some_shelves(self):
        for seed in range(60):
            source = random.Random(seed)
            blocks, places = some_shelf(source)
            roots = [source.choice(places) for number in range(source.randint(0, 6))]
            counts = counts_of(blocks, roots, max(blocks) + 2)
            paper = disk_paper(blocks, roots)
            self.holds(paper, True, blocks, roots, counts, False)
            contents = [blocks[place] for place, row in paper]
            self.holds(paper, len(set(contents)) == len(contents), blocks, roots, counts, True)
            if paper:
                self.holds(paper[:-1], False, blocks, roots, counts, False)

    def test_of_nothing(self):
        self.holds([], True, {}, [], [0] * 9)
        self.holds([], True, BLOCKS, [], [0] * 9)
        self.holds([], False, BLOCKS, [4], counts_of(BLOCKS, [4], 8))

    def test_another_allowed_order(self):
        rows = dict(PAPER)
        for order in ((4, 3, 2, 1, 5), (4, 5, 3, 2, 1), (3, 4, 2, 1, 5), (4, 2, 1, 3, 5)):
            self.holds([(place, rows[place]) for place in order])
        # Hangers behind the first one in any order.
        self.holds(self.with_row(0, (4, ((0, 2), (0, 0)))))
        self.holds(self.with_row(1, (3, ((4, 0), (0, 1)))))
        self.holds(self.with_row(2, (2, ((3, 1), (4, 1), (3, 0)))))
        self.holds(self.with_row(4, (1, ((2, 1), (2, 0)))))
        # Behind the first one a hanger may stand behind in the paper.
        self.holds([PAPER[0], (2, ((4, 1), (3, 0), (3, 1))), PAPER[1], PAPER[3], PAPER[4]])

    def test_a_large_one(self):
        blocks = {}
        roots = [laid(blocks, folder(a=file(*leaves(64)))), laid(blocks, file(*leaves(60)))]
        counts = counts_of(blocks, roots, 400)
        self.holds(disk_paper(blocks, roots), True, blocks, roots, counts, False)
        blocks, place = dense(file((1,)))
        self.holds(disk_paper(blocks, [place]), True, blocks, [place], counts_of(blocks, [place], 400))


class BentTest(DiskCheckTest):

    def test_a_row_left_out(self):
        for number in range(len(PAPER)):
            self.bent(PAPER[:number] + PAPER[number + 1:])
        self.bent([])

    def test_a_row_left_out_with_all_that_it_hangs(self):
        self.bent([PAPER[0], PAPER[1], (2, ((4, 1), (3, 0), (3, 1))), PAPER[4]])
        # Without the root at 3, and without its link as a hanger.
        self.bent([(4, ((0, 0), (0, 2))), (2, ((4, 1),)), (5, ((4, 2),)), (1, ((2, 0), (2, 1)))])
        # The counts go along, so that only the link that is left out is wrong.
        self.holds([(4, ((0, 0),))], False, roots=[4], counts=[0, 0, 0, 0, 1, 0, 0, 0, 0])
        self.holds([(4, ((0, 0),)), (5, ((4, 2),))], False, roots=[4], counts=[0, 0, 0, 0, 1, 1, 0, 0, 0])

    def test_a_row_twice(self):
        for row in PAPER:
            self.bent(PAPER + [row])
            self.bent(PAPER + [(row[0], ())])
        # A place's hangers on two rows.
        self.bent([(4, ((0, 0),)), (4, ((0, 2),))] + PAPER[1:])
        self.bent(PAPER[:4] + [(1, ((2, 0),)), (1, ((2, 1),))])

    def test_out_of_order(self):
        rows = dict(PAPER)
        for order in ((5, 4, 3, 2, 1), (4, 3, 1, 2, 5), (2, 4, 3, 5, 1), (1, 2, 3, 4, 5)):
            self.bent([(place, rows[place]) for place in order])

    def test_another_place(self):
        for number, row in enumerate(PAPER):
            for place in (0, 1, 2, 3, 4, 5, 6, 7, 8, 9, -1, 10 ** 20):
                if place != row[0]:
                    self.bent(self.with_row(number, (place, row[1])))

    def test_a_place_more(self):
        for place in (0, 6, 7, 8, 9, -1, 10 ** 20):
            for hangers in ((), ((0, 0),), ((0, 3),), ((4, 3),), ((7, 0),), ((place, 0),)):
                self.bent(PAPER + [(place, hangers)])
                self.bent([(place, hangers)] + PAPER)

    def test_a_block_that_hangs_nowhere(self):
        # What it hangs has one hanger more, in the counts, too: only a hanger of its own is missing.
        paper = [(4, ((0, 0),)), (3, ((4, 0),)), (2, ((4, 1), (3, 0), (3, 1))), (5, ((4, 2), (7, 0))), (1, ((2, 0), (2, 1)))]
        counts = [0, 2, 3, 1, 1, 2, 0, 0, 0]
        self.holds(paper + [(7, ())], False, roots=[4], counts=counts)
        self.holds([(7, ())] + paper, False, roots=[4], counts=counts)
        self.holds(paper, False, roots=[4], counts=counts)

    def test_blocks_that_hang_by_themselves_only(self):
        # Two that link to one another aren't come to from a root, though each has a hanger.
        blocks = {1: (3, 1, 2), 2: (3, 1, 1)}
        for paper in ([(1, ((2, 0),)), (2, ((1, 0),))], [(2, ((1, 0),)), (1, ((2, 0),))]):
            self.holds(paper, False, blocks, [], [0, 1, 1])
        self.holds([(1, ((1, 0),))], False, {1: (3, 1, 1)}, [], [0, 1])

    def test_a_hanger_left_out(self):
        for number, (place, hangers) in enumerate(PAPER):
            for at in range(len(hangers)):
                less = hangers[:at] + hangers[at + 1:]
                self.bent(self.with_row(number, (place, less)))
                # With a count that goes along it is still missing.
                counts = list(COUNTS)
                counts[place] -= 1
                self.holds(self.with_row(number, (place, less)), False, counts=counts)

    def test_a_hanger_twice(self):
        for number, (place, hangers) in enumerate(PAPER):
            for hanger in hangers:
                more = hangers + (hanger,)
                self.bent(self.with_row(number, (place, more)))
                counts = list(COUNTS)
                counts[place] += 1
                self.holds(self.with_row(number, (place, more)), False, counts=counts)
                self.holds(self.with_row(number, (place, (hanger,) * len(hangers))), len(hangers) == 1)

    def test_another_hanger(self):
        wrong = (
            (0, 3), (0, -1), (0, 1), (0, 0), (1, 0), (2, 0), (2, 2), (3, 2), (3, -1), (3, 0), (4, 0), (4, 3), (4, -3), (5, 0),
            (6, 0), (7, 0), (8, 0), (9, 9), (-1, 0), (-4, 0), (10 ** 20, 0), (4, 10 ** 20), (0, 10 ** 20),
        )
        for number, (place, hangers) in enumerate(PAPER):
            for at in range(len(hangers)):
                for hanger in wrong:
                    if hanger != hangers[at]:
                        self.bent(self.with_row(number, (place, hangers[:at] + (hanger,) + hangers[at + 1:])))

    def test_a_hanger_more(self):
        for number, (place, hangers) in enumerate(PAPER):
            for hanger in ((0, 3), (0, 1), (4, 3), (5, 0), (7, 0), (6, 0), (8, 0)):
                if hanger not in hangers:
                    counts = list(COUNTS)
                    counts[place] += 1
                    self.holds(self.with_row(number, (place, hangers + (hanger,))), False, counts=counts)

    def test_no_hanger(self):
        for number, (place, hangers) in enumerate(PAPER):
            self.bent(self.with_row(number, (place, ())))

    def test_the_first_hanger_stands_behind(self):
        self.bent([PAPER[0], (2, ((3, 0), (4, 1), (3, 1))), PAPER[1], PAPER[3], PAPER[4]])
        self.bent([(3, ((4, 0), (0, 1))), PAPER[0]] + PAPER[2:])

    def test_a_count_more_or_less(self):
        for place in range(len(COUNTS)):
            for other in (-1, 1, 5):
                counts = list(COUNTS)
                counts[place] += other
                for once in (True, False):
                    self.holds(PAPER, False, counts=counts, once=once)
        self.holds(PAPER, False, counts=[1] + COUNTS[1:])
        # The counts of places that don't hang, 6 in the blocks and 8 not.
        self.holds(PAPER, False, counts=COUNTS[:6] + [1, 0, 0])
        self.holds(PAPER, False, counts=COUNTS[:8] + [1])
        self.holds(PAPER, False, counts=COUNTS[:5])
        self.holds([(5, ((0, 0),))], True, {5: (3,)}, [5], [0, 0, 0, 0, 0, 1])
        self.holds([(5, ((0, 0),))], False, {5: (3,)}, [5], [0, 0])

    def test_other_roots(self):
        for roots in ([4, 3], [4, 3, 4, 4], [3, 4, 4], [4, 3, 5], [4, 3, 4, 5]):
            for once in (True, False):
                self.holds(PAPER, False, roots=roots, once=once)

    def test_two_blocks_alike(self):
        blocks = {1: (0, 9), 2: (0, 9), 3: (2, 2, 1, 2), 4: (0, 9), 5: (3,)}
        paper = disk_paper(blocks, [3])
        counts = [0, 1, 1, 1, 0, 0]
        self.holds(paper, True, blocks, [3], counts, False)
        self.holds(paper, False, blocks, [3], counts, True)
        # Those that don't hang may be like another.
        self.holds(disk_paper({**blocks, 2: (0, 8)}, [3]), True, {**blocks, 2: (0, 8)}, [3], counts, True)


class WhateverTest(DiskCheckTest):

    def test_in_the_papers_stead(self):
        for one in WHATEVER + (0, 1, "", "paper", (), nested(29, (1, ())), {4: ((0, 0), (0, 2))}, dict(PAPER), tuple(PAPER)):
            if one != []:
                self.bent(one, (one,), [one], [one, one], [(one,)], [[one]], PAPER + [one], [PAPER, one])

    def test_lists_in_the_rows_stead(self):
        self.bent([list(row) for row in PAPER], PAPER[:4] + [list(PAPER[4])], [PAPER], [tuple(PAPER)])
        self.bent([(place, list(row)) for place, row in PAPER], [(place, tuple(list(each) for each in row)) for place, row in PAPER])
        self.bent(self.with_row(3, (5, ([4, 2],))), self.with_row(3, (5, [(4, 2)])), self.with_row(3, (5, {(4, 2): 1})))

    def test_in_a_rows_stead(self):
        for one in WHATEVER + (0, "", ()):
            for number, (place, hangers) in enumerate(PAPER):
                self.bent(self.with_row(number, one), self.with_row(number, (one, hangers)), self.with_row(number, (place, one)))
                self.bent(self.with_row(number, (place, hangers, one)), self.with_row(number, (place, hangers + (one,))))
                self.bent(self.with_row(number, (place, (one,) + hangers[1:])), self.with_row(number, (place, ((one, 0),))))
                self.bent(self.with_row(number, (place, (hangers[0] + (one,),) + hangers[1:])), self.with_row(number, (place,)))

    def test_true_and_false_are_no_numbers(self):
        blocks = {1: (3,)}
        self.holds([(1, ((0, 0),))], True, blocks, [1], [0, 1])
        for paper in ([(True, ((0, 0),))], [(1, ((False, 0),))], [(1, ((0, False),))], [(1, ((False, False),))]):
            self.holds(paper, False, blocks, [1], [0, 1])
        blocks = {1: (3, 1, 2), 2: (3,)}
        self.holds([(1, ((0, 0),)), (2, ((1, 0),))], True, blocks, [1], [0, 1, 1])
        self.holds([(1, ((0, 0),)), (2, ((True, 0),))], False, blocks, [1], [0, 1, 1])
        self.holds([(1, ((0, 0),)), (2, ((1, False),))], False, blocks, [1], [0, 1, 1])

    def test_any_paper_of_small_numbers(self):
        # Whatever is let by has just the hangers that there are.
        source = random.Random(5)
        blocks = {1: (3,), 2: (3, 1, 1), 3: (3, 1, 2, 2, 1)}
        roots, counts = [3], [0, 2, 1, 1]
        let_by = 0
        for turn in range(20000):
            paper = []
            for place in source.sample((1, 2, 3), source.choice((2, 3, 3, 3))):
                pairs = [(0, 0), (3, 0), (3, 1), (2, 0), (1, 0), (0, 1)]
                paper.append((place, tuple(source.sample(pairs, counts[place]))))
            if disk_holds(paper, blocks, roots, counts, True):
                let_by += 1
                self.assertEqual({place: sorted(row) for place, row in paper},
                                 {place: sorted(row) for place, row in walked(blocks, roots).items()})
                self.assertEqual(paper[0][0], 3)
        self.assertGreater(let_by, 0)


if __name__ == "__main__":
    unittest.main()
