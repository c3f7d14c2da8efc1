"""The steps by which a shelf's deeds are done on its disk (22)."""

import random
import unittest

from helper import all_told, ask, begun, both_asked, cells, file_deeds, shelf_with, some_call, told
from snapshelf.heads import ledger_content, read_root, root_content
from snapshelf.opening import newest
from snapshelf.plainshelf import PlainShelf
from snapshelf.shelf import Shelf
from snapshelf.steps import do_steps, groups_of


def pairs_of(puts):
    """The puts of a group as (spot, content), if each stands in both copies; else None."""
    firsts = sorted(put[2:] for put in puts if put[1] == 0)
    seconds = sorted(put[2:] for put in puts if put[1] == 1)
    return firsts if firsts == seconds else None


class StepsTest(unittest.TestCase):

    def check_steps(self, shelf, ahead, twin, held):
        """The last steps are as told, with the shelf and its disk as they were ahead of the deed."""
        steps = shelf.steps()
        self.assertEqual(steps.count(("line",)), 2)
        blocks, ledger, root = groups_of(steps)
        fresh = [(3 + place, content) for place, content in shelf.blocks().items() if place not in ahead.blocks()]
        self.assertEqual(pairs_of(blocks), sorted(fresh))
        generation = shelf.generation()
        rows = newest(shelf.disk)[2]
        self.assertEqual(pairs_of(ledger), [(2 + generation % 2, ledger_content(generation, shelf.counts()))])
        self.assertEqual(pairs_of(root), [(generation % 2, root_content(generation, shelf.once(), rows))])
        self.assertEqual([row[:2] + row[3:] for row in rows], shelf.entries())
        self.assertEqual([row[2] for row in rows], shelf.roots())
        spots = [put[2] for put in blocks + ledger + root]
        self.assertNotIn(ahead.generation() % 2, spots)
        self.assertNotIn(2 + ahead.generation() % 2, spots)
        for spot in spots:
            if spot > 3:
                self.assertEqual(ahead.counts()[spot - 3], 0)
                self.assertNotIn(spot - 3, held)
        do_steps(twin, steps)
        self.assertEqual(cells(twin), cells(shelf.disk))

    def test_each_deed_of_long_rows(self):
        done = 0
        for seed in range(8):
            source = random.Random(seed)
            disk = begun((40, 90)[seed % 2], seed % 4 < 2)
            shelf, plain = Shelf(disk), PlainShelf()
            for number in range(100):
                ahead, twin, last = Shelf(disk), disk.twin(), shelf.steps()
                answer, plain_answer = both_asked(shelf, plain, some_call(source, plain))
                if shelf.generation() == ahead.generation():
                    self.assertEqual(shelf.steps(), last)
                    self.assertEqual(cells(disk), cells(twin))
                    self.assertEqual(all_told(shelf)[2:], all_told(ahead)[2:])
                else:
                    done += 1
                    self.assertIsNone(answer)
                    self.assertEqual(shelf.generation(), ahead.generation() + 1)
                    self.check_steps(shelf, ahead, twin, [])
        self.assertGreater(done, 300)

    def test_with_files_open(self):
        for seed in range(6):
            source = random.Random(seed)
            disk = begun(60, seed % 2 == 0)
            shelf, plain = Shelf(disk), PlainShelf()
            held = {}
            for number in range(120):
                ahead, twin, generation = Shelf(disk), disk.twin(), shelf.generation()
                both_asked(shelf, plain, some_call(source, plain))
                if shelf.generation() != generation:
                    self.check_steps(shelf, ahead, twin, [each for places in held.values() for each in places])
                self.hold_or_let_go(source, shelf, held)
                kept = {each for places in held.values() for each in places}
                self.assertEqual(shelf.free(), 60 - len(kept | set(shelf.blocks())))

    def hold_or_let_go(self, source, shelf, held):
        """Hold some file, or let one go; held has the places of the files' blocks by the files' places."""
        if held and source.random() < 0.4:
            place = source.choice(sorted(held))
            shelf.let_hold(place)
            del held[place]
            return
        for entry, view in told(shelf):
            for name, thing in view[1]:
                if thing[0] == "file" and source.random() < 0.3:
                    place = shelf.hold(entry[0], (name,))
                    if place in held:
                        shelf.let_hold(place)
                    held[place] = places_below(shelf.blocks(), place)
                    self.assertEqual(shelf.held_thing(place), thing)
                    return

    def test_a_deed_that_changes_nothing_does_no_steps(self):
        for once in (True, False):
            disk = begun(60, once)
            shelf = shelf_with(
                disk, ("house", "h", 50), ("do", "h", file_deeds(("a",), 6)), ("snap", "h", "s"), ("do", "h", file_deeds(("b",), 1)),
                ("back", "h", "s"),
            )
            ahead = (all_told(shelf), cells(disk))
            for call in (
                ("do", "h", []), ("do", "h", [("put", ("a",), 3, (3, 0))]), ("do", "h", [("trim", ("a",), 6)]),
                ("back", "h", "s"), ("rebound", "h", 50),
            ):
                self.assertIsNone(ask(shelf, call))
                self.assertEqual((all_told(shelf), cells(disk)), ahead, call)

    def test_a_deed_without_new_blocks_has_three_groups(self):
        shelf = shelf_with(begun(20, True), ("house", "h", 50), ("snap", "h", "s"))
        groups = groups_of(shelf.steps())
        self.assertEqual([len(group) for group in groups], [0, 2, 2])


class GenerationTest(unittest.TestCase):

    def setUp(self):
        self.disk = begun(30, True)
        self.shelf = shelf_with(self.disk, ("house", "h", 50), ("do", "h", [("file", ("a",))]), ("snap", "h", "s"))
        self.assertEqual(self.shelf.generation(), 4)

    def behind(self, *roots):
        """The generation of the next deed, with these contents in spot 1, by their copies."""
        for copy, content in enumerate(roots):
            if content is not None:
                self.disk.write(copy, 1, content)
        self.shelf.drop("s")
        self.assertEqual(newest(self.disk)[0], self.shelf.generation())
        self.assertEqual(Shelf(self.disk).entries(), [("h", "house", 50)])
        return self.shelf.generation()

    def test_one_more(self):
        self.assertEqual(self.behind(None, None), 5)

    def test_older_roots_do_not_count(self):
        self.assertEqual(self.behind(root_content(1, True, []), root_content(3, True, [])), 5)

    def test_a_root_of_that_generation(self):
        self.assertEqual(self.behind(root_content(5, True, []), None), 7)

    def test_a_root_of_that_generation_in_the_second_copy(self):
        self.assertEqual(self.behind(None, root_content(5, True, [("x", "house", 1, 5)])), 7)

    def test_greater_ones(self):
        self.assertEqual(self.behind(root_content(9, False, []), root_content(21, True, [])), 23)

    def test_a_root_with_places_beyond_the_disk(self):
        self.assertEqual(self.behind(root_content(7, True, [("x", "house", 31, 5)]), None), 9)

    def test_a_root_that_does_not_stand_there(self):
        self.assertEqual(self.behind(root_content(6, True, []), root_content(8, True, [])), 5)

    def test_what_is_no_root(self):
        self.assertIsNone(read_root((9, 1, 5)))
        self.assertEqual(self.behind((9, 1, 5), (9,)), 5)

    def test_a_cell_that_is_not_right(self):
        self.disk.rot(0, 1, (5, root_content(9, True, [])))
        self.assertEqual(self.behind(None, None), 5)

    def test_roots_of_the_other_spot_do_not_count(self):
        self.disk.write(1, 0, root_content(8, True, []))
        self.assertEqual(self.behind(None, None), 5)
        self.shelf.drop("h")
        self.assertEqual(self.shelf.generation(), 10)
        self.assertEqual(newest(self.disk)[0], 10)

    def test_again_and_again(self):
        self.disk.write(1, 1, root_content(5, True, []))
        self.shelf.drop("s")
        self.shelf.house("i", 5)
        self.shelf.house("j", 5)
        self.assertEqual(self.shelf.generation(), 9)


def places_below(blocks, place):
    """The places that are come to from the place, by going each way."""
    content = blocks[place]
    inner = {0: (), 1: content[1:], 2: content[2:], 3: content[2::2]}[content[0]]
    return {place}.union(*[places_below(blocks, link) for link in inner])


if __name__ == "__main__":
    unittest.main()
