"""What comes free with some roots, the paper of it, and its checker (27)."""

import copy
import random
import unittest

from helper import WHATEVER, dense, file, folder, laid, leaves, nested, some_shelf
from snapshelf.counts import counts_of
from snapshelf.room import frees, room_paper
from snapshelf.roomcheck import room_holds
from snapshelf.trees import come_to

# 1 a leaf, 2 a file that has it twice, 3 a folder with the file twice, 4 one with 3 and 5, 5 an empty one,
# 6 a folder with 2, 7 one with 5 and 8, 8 a leafless file, 9 hangs nowhere.
BLOCKS = {
    1: (0, 9), 2: (2, 2, 1, 1), 3: (3, 1, 2, 2, 2), 4: (3, 1, 3, 2, 5), 5: (3,), 6: (3, 1, 2), 7: (3, 1, 5, 2, 8), 8: (2, 0),
    9: (3, 1, 4),
}
ROOTS = [4, 6, 7, 4]
COUNTS = [0, 2, 3, 1, 2, 2, 1, 1, 1, 0, 0]
# With roots 0 and 3, both at 4: 3 and 4 come free; 2 and 1 stay by 6, 5 by 7.
PAPER = [(4, 0, ()), (3, 4, ()), (5, 4, (7, 5)), (2, 3, (6, 2)), (1, 2, (6, 2, 1))]


def kept_by_counts(blocks, roots, chosen):
    """What comes free, told by comparing what is come to with and without the chosen roots."""
    staying = [place for number, place in enumerate(roots) if number not in chosen]
    return sorted(set(come_to(blocks, roots)) - set(come_to(blocks, staying)))


class RoomTest(unittest.TestCase):

    def holds(self, paper, expected=True, chosen=(0, 3), blocks=BLOCKS, roots=ROOTS, counts=COUNTS):
        handed = (paper, blocks, roots, counts, list(chosen))
        before = copy.deepcopy(handed)
        self.assertIs(room_holds(*handed), expected, paper)
        self.assertEqual(handed, before)

    def bent(self, *papers, chosen=(0, 3)):
        for paper in papers:
            self.holds(paper, False, chosen)

    def with_row(self, number, row):
        return PAPER[:number] + [row] + PAPER[number + 1:]


class FreesTest(RoomTest):

    def freed(self, chosen, expected):
        handed = (dict(BLOCKS), list(ROOTS), list(chosen))
        before = copy.deepcopy(handed)
        told = frees(*handed)
        self.assertIsInstance(told, list)
        self.assertEqual(told, expected)
        self.assertEqual(handed, before)

    def test_none_chosen(self):
        self.freed([], [])

    def test_some_chosen(self):
        self.freed([1], [6])
        self.freed([2], [7, 8])
        self.freed([0, 3], [3, 4])
        self.freed([3, 0], [3, 4])
        self.freed([0, 3, 2], [3, 4, 5, 7, 8])
        self.freed([1, 0, 3], [1, 2, 3, 4, 6])

    def test_all_chosen(self):
        self.freed([0, 1, 2, 3], [1, 2, 3, 4, 5, 6, 7, 8])
        self.freed([3, 2, 1, 0], [1, 2, 3, 4, 5, 6, 7, 8])

    def test_one_of_a_root_that_stands_twice(self):
        self.freed([0], [])
        self.freed([3], [])
        self.freed([3, 1], [6])

    def test_a_root_below_another(self):
        blocks = {1: (3,), 2: (3, 1, 1), 3: (3, 1, 2)}
        self.assertEqual(frees(blocks, [3, 2], [0]), [3])
        self.assertEqual(frees(blocks, [3, 2], [1]), [])
        self.assertEqual(frees(blocks, [3, 1], [0]), [2, 3])
        self.assertEqual(frees({}, [], []), [])

    def test_some_shelves(self):
        for seed in range(60):
            source = random.Random(seed)
            blocks, places = some_shelf(source)
            roots = [source.choice(places) for number in range(source.randint(0, 6))]
            chosen = source.sample(range(len(roots)), source.randint(0, len(roots)))
            self.assertEqual(frees(blocks, roots, chosen), kept_by_counts(blocks, roots, chosen))

    def test_a_thing_at_very_many_paths(self):
        blocks, place = dense(file((1,)))
        self.assertEqual(frees(blocks, [place], [0]), sorted(blocks))
        self.assertEqual(frees(blocks, [place, place - 1], [0]), [place])


class PaperTest(RoomTest):

    def check(self, blocks, roots, chosen):
        """The rows are as told, one for each place come to from the chosen, and the paper holds."""
        handed = (blocks, roots, chosen)
        before = copy.deepcopy(handed)
        paper = room_paper(*handed)
        self.assertEqual(handed, before)
        self.assertIsInstance(paper, list)
        picked = [roots[number] for number in chosen]
        others = [place for number, place in enumerate(roots) if number not in chosen]
        self.assertEqual(sorted(row[0] for row in paper), come_to(blocks, picked))
        ahead = []
        for row in paper:
            self.assertIsInstance(row, tuple)
            place, by, way = row
            self.assertIsInstance(way, tuple)
            if by == 0:
                self.assertIn(place, picked)
            else:
                self.assertIn(by, ahead)
                self.assertIn(place, blocks[by][1:])
            if way:
                self.assertIn(way[0], others)
                self.assertEqual(way[-1], place)
                for first, second in zip(way, way[1:]):
                    self.assertIn(second, blocks[first][1:])
            ahead.append(place)
        self.assertEqual(sorted(row[0] for row in paper if row[2] == ()), frees(blocks, roots, chosen))
        most = max(blocks, default=0) + 2
        self.holds(paper, True, chosen, blocks, roots, counts_of(blocks, roots, most))
        return paper

    def test_made(self):
        self.assertEqual(counts_of(BLOCKS, ROOTS, 10), COUNTS)
        for chosen in ([], [0], [1], [2], [3], [0, 3], [3, 0], [0, 1, 3], [2, 1], [0, 1, 2, 3], [3, 1, 2, 0]):
            self.check(BLOCKS, ROOTS, chosen)
        self.assertEqual(room_paper(BLOCKS, ROOTS, []), [])
        self.assertEqual(sorted(room_paper(BLOCKS, ROOTS, [2])), [(5, 7, (4, 5)), (7, 0, ()), (8, 7, ())])
        self.assertEqual(room_paper({}, [], []), [])

    def test_a_root_that_stands_twice(self):
        self.assertEqual(self.check({1: (3,)}, [1, 1], [0]), [(1, 0, (1,))])
        self.assertEqual(self.check({1: (3,)}, [1, 1], [1, 0]), [(1, 0, ())])

    def test_some_shelves(self):
        for seed in range(100):
            source = random.Random(seed)
            blocks, places = some_shelf(source)
            roots = [source.choice(places) for number in range(source.randint(0, 6))]
            self.check(blocks, roots, source.sample(range(len(roots)), source.randint(0, len(roots))))

    def test_large_ones(self):
        blocks = {}
        roots = [laid(blocks, folder(a=file(*leaves(64)))), laid(blocks, file(*leaves(60)))]
        self.check(blocks, roots, [0])
        self.check(blocks, roots, [0, 1])
        blocks, place = dense(file((1,)))
        self.check(blocks, [place, place - 2], [0])
        self.check(blocks, [place, place - 2], [1])


class RoomCheckTest(RoomTest):

    def test_holds(self):
        self.holds(PAPER)
        self.holds(PAPER, chosen=(3, 0))
        self.holds([PAPER[0], PAPER[2], PAPER[1], PAPER[3], PAPER[4]])
        self.holds([PAPER[0], PAPER[1], PAPER[3], PAPER[4], PAPER[2]])
        self.holds([], chosen=())

    def test_another_by_that_is_as_told(self):
        blocks = {1: (3,), 2: (3, 1, 1), 3: (3, 1, 2, 2, 1)}
        counts = [0, 3, 1, 1]
        for by in (0, 2, 3):
            self.holds([(3, 0, ()), (2, 3, ()), (1, by, ())], True, [0, 1], blocks, [3, 1], counts)
        self.holds([(1, 0, ()), (3, 0, ()), (2, 3, ())], True, [0, 1], blocks, [3, 1], counts)

    def test_another_way_that_is_as_told(self):
        blocks = {1: (3,), 2: (3, 1, 1), 3: (3, 1, 2, 2, 1), 4: (3, 1, 1)}
        counts = counts_of(blocks, [4, 3, 3], 5)
        for way, expected in (((3, 1), True), ((3, 2, 1), True), ((3, 2), False), ((2, 1), False), ((1,), False), ((3, 3, 1), False)):
            self.holds([(4, 0, ()), (1, 4, way)], expected, [0], blocks, [4, 3, 3], counts)

    def test_a_row_left_out(self):
        for number in range(len(PAPER)):
            self.bent(PAPER[:number] + PAPER[number + 1:])
        self.bent([], PAPER[:1], PAPER[:3], PAPER[:4])
        self.bent([], chosen=(2,))
        self.bent([(7, 0, ()), (8, 7, ())], [(7, 0, ()), (5, 7, (4, 5))], chosen=(2,))

    def test_a_row_left_out_that_nothing_in_the_paper_links_to(self):
        # A chosen root's own place, with the other chosen one's rows whole.
        self.bent([(7, 0, ()), (5, 7, (4, 5)), (8, 7, ())], chosen=(2, 1))
        self.holds([(7, 0, ()), (5, 7, (4, 5)), (8, 7, ()), (6, 0, ()), (2, 6, (4, 3, 2)), (1, 2, (4, 3, 2, 1))], chosen=(2, 1))

    def test_a_row_twice(self):
        for row in PAPER:
            self.bent(PAPER + [row], [row] + PAPER)

    def test_out_of_order(self):
        self.bent([PAPER[1], PAPER[0]] + PAPER[2:], PAPER[:3] + [PAPER[4], PAPER[3]], list(reversed(PAPER)))

    def test_another_place(self):
        for number, (place, by, way) in enumerate(PAPER):
            for other in (0, 1, 2, 3, 4, 5, 6, 7, 8, 9, 10, 11, -1, 10 ** 20):
                if other != place:
                    self.bent(self.with_row(number, (other, by, way)), self.with_row(number, (other, by, ())))

    def test_a_place_more(self):
        for place in (0, 6, 7, 8, 9, 10, 11, -1, 10 ** 20):
            for by in (0, 1, 2, 4, 6, 9, place):
                for way in ((), (place,), (6, place), (7, place)):
                    self.bent(PAPER + [(place, by, way)])

    def test_another_by(self):
        for number, (place, by, way) in enumerate(PAPER):
            for other in (0, 1, 2, 3, 4, 5, 6, 7, 8, 9, 10, 11, -1, -4, 10 ** 20):
                if other != by:
                    self.bent(self.with_row(number, (place, other, way)))

    def test_by_zero_is_for_chosen_roots_only(self):
        self.bent([(4, 0, ()), (3, 4, ()), (5, 4, (7, 5)), (6, 0, (6,)), (2, 3, (6, 2)), (1, 2, (6, 2, 1))])

    def test_by_a_place_that_stands_behind(self):
        blocks = {1: (3,), 2: (3, 1, 1), 3: (3, 1, 2, 2, 1)}
        counts = [0, 2, 1, 1]
        self.holds([(3, 0, ()), (1, 3, ()), (2, 3, ())], True, [0], blocks, [3], counts)
        self.holds([(3, 0, ()), (1, 2, ()), (2, 3, ())], False, [0], blocks, [3], counts)
        self.holds([(1, 1, ())], False, [], {1: (3, 1, 1)}, [], [0, 1])

    def test_a_way_that_there_is_not(self):
        for number, (place, by, way) in enumerate(PAPER):
            for other in (
                    (place,), (6,), (7,), (6, 2, 1, 1), (7, 8), (6, 5), (7, 2), (7, 5, 5), (6, 2, 2), (6, 6, 2), (2,), (2, 1), (9, place),
                    (6, 2), (6, 2, 1), (7, 5), (0,), (0, 6, 2), (6, 0, 2), (7, -1, 5), (10 ** 20,), (10, place), (6, 10, place), (6, 1), (6, 2, 9, 1), (7, 8, 5)):
                if other != way:
                    self.bent(self.with_row(number, (place, by, other)))

    def test_a_way_that_begins_at_a_chosen_root(self):
        self.bent(self.with_row(0, (4, 0, (4,))), self.with_row(1, (3, 4, (4, 3))), self.with_row(2, (5, 4, (4, 5))))
        self.bent(self.with_row(3, (2, 3, (4, 3, 2))), self.with_row(4, (1, 2, (4, 3, 2, 1))))
        # The root that stands twice is one that isn't chosen, too, where only one of the two is.
        rows = [(4, 0, (4,)), (3, 4, (4, 3)), (5, 4, (4, 5)), (2, 3, (4, 3, 2)), (1, 2, (4, 3, 2, 1))]
        self.holds(rows, True, chosen=(0,))
        self.holds(rows, True, chosen=(3,))
        self.bent(rows)

    def test_no_way_where_the_place_does_not_come_free(self):
        for number in (2, 3, 4):
            place, by, way = PAPER[number]
            self.bent(self.with_row(number, (place, by, ())))
        self.bent([(place, by, ()) for place, by, way in PAPER])
        self.bent([(4, 0, ()), (3, 4, ()), (5, 4, (7, 5)), (2, 3, ()), (1, 2, ())])
        self.bent([(place, by, ()) for place, by, way in PAPER], chosen=(0,))

    def test_a_count_more_or_less(self):
        for place in (3, 4):
            for other in (-1, 1, 7):
                counts = list(COUNTS)
                counts[place] += other
                self.holds(PAPER, False, counts=counts)
        # Of those that stay the counts aren't looked at.
        self.holds(PAPER, True, counts=[0, 9, 9, 1, 2, 9, 9, 9, 9, 9, 9])
        self.holds(PAPER, False, counts=COUNTS[:4])
        self.holds(PAPER, False, counts=[])

    def test_blocks_that_are_not_there(self):
        for missing in (1, 2, 3, 4, 5, 6, 7):
            self.holds(PAPER, False, blocks={place: BLOCKS[place] for place in BLOCKS if place != missing})

    def test_counts_with_a_link_twice(self):
        blocks = {1: (0,), 2: (2, 2, 1, 1)}
        paper = [(2, 0, ()), (1, 2, ())]
        self.holds(paper, True, [0], blocks, [2], [0, 2, 1])
        self.holds(paper, False, [0], blocks, [2], [0, 1, 1])
        self.holds(paper, True, [0, 1], blocks, [2, 2], [0, 2, 2])
        self.holds(paper, False, [0], blocks, [2, 2], [0, 2, 2])


class WhateverTest(RoomTest):

    def test_in_the_papers_stead(self):
        for one in WHATEVER + (0, 1, "", "paper", (), nested(29, (1, 0, ())), {4: (0, ())}, tuple(PAPER)):
            if one != []:
                self.bent(one, (one,), [one], [one, one], [(one,)], [[one]], PAPER + [one], [PAPER, one])
                self.bent(one, [one], chosen=())

    def test_lists_in_the_rows_stead(self):
        self.bent([list(row) for row in PAPER], PAPER[:4] + [list(PAPER[4])], [PAPER], [tuple(PAPER)])
        self.bent([(place, by, list(way)) for place, by, way in PAPER], self.with_row(0, (4, 0, [])), self.with_row(0, (4, 0, {})))

    def test_in_a_rows_stead(self):
        for one in WHATEVER + (0, "", (), 10 ** 20):
            for number, (place, by, way) in enumerate(PAPER):
                self.bent(self.with_row(number, one), self.with_row(number, (place, by, way, one)), self.with_row(number, (place, by)))
                self.bent(self.with_row(number, (place, by, way + (one,))), self.with_row(number, (place, by, (one,) + way)))
                if one != place:
                    self.bent(self.with_row(number, (one, by, way)))
                if one != by or isinstance(one, bool):
                    self.bent(self.with_row(number, (place, one, way)))
                if one != way:
                    self.bent(self.with_row(number, (place, by, one)))

    def test_true_and_false_are_no_numbers(self):
        blocks = {1: (3, 1, 2), 2: (3,)}
        self.holds([(1, 0, ()), (2, 1, ())], True, [0], blocks, [1], [0, 1, 1])
        for paper in ([(True, 0, ()), (2, 1, ())], [(1, False, ()), (2, 1, ())], [(1, 0, ()), (2, True, ())]):
            self.holds(paper, False, [0], blocks, [1], [0, 1, 1])
        self.holds([(1, 0, (1,)), (2, 1, (1, 2))], True, [0], blocks, [1, 1], [0, 2, 1])
        for way in ((True, 2), (1, True), (True,)):
            self.holds([(1, 0, (1,)), (2, 1, way)], False, [0], blocks, [1, 1], [0, 2, 1])
        self.holds([(1, 0, (True,)), (2, 1, (1, 2))], False, [0], blocks, [1, 1], [0, 2, 1])

    def test_any_paper_of_small_numbers(self):
        # Whatever is let by tells just what comes free.
        source = random.Random(7)
        blocks = {1: (3,), 2: (3, 1, 1), 3: (3, 1, 2, 2, 1), 4: (3, 1, 2)}
        let_by = {}
        for turn in range(30000):
            roots = source.choice(([3, 4], [3, 2], [4, 3, 1], [3, 3], [3]))
            counts = counts_of(blocks, roots, 4)
            paper = []
            for place, ways in ((3, ((), (), (3,))), (2, ((), (4, 2), (2,), (3, 2))), (1, ((), (4, 2, 1), (2, 1), (1,), (3, 2, 1), (3, 1)))):
                paper.append((place, source.choice(((0,), (3,), (3, 2))[3 - place]), source.choice(ways)))
            if room_holds(paper, blocks, roots, counts, [roots.index(3)]):
                self.assertEqual(sorted(row[0] for row in paper if row[2] == ()), frees(blocks, roots, [roots.index(3)]))
                let_by[tuple(roots)] = True
        self.assertEqual(len(let_by), 5)


if __name__ == "__main__":
    unittest.main()
