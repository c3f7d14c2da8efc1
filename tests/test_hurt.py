"""A shelf opened on a disk with blocks that can't be read (23), and its lost paths (30)."""

import unittest

from helper import (
    EMPTY, all_told, ask, begun, cells, chain, dense, file, file_deeds, folder, long_row, refusal, shelf_with, spoil, told,
    written_disk,
)
from snapshelf.counts import counts_of
from snapshelf.holder import Holder
from snapshelf.lostpaths import lost_paths
from snapshelf.names import code_of
from snapshelf.shelf import Shelf

DEEDS = (
    ("house", "x", 5), ("house", "h", 5), ("do", "h", []), ("do", "q", [None]), ("do", "h", [("file", ("b",))]), ("snap", "h", "x"),
    ("snap", "q", "s"), ("back", "h", "s"), ("back", "q", "q"), ("clone", "s", "x", 500), ("clone", "q", "q", 1), ("drop", "h"),
    ("drop", "q"), ("rebound", "h", 400), ("rebound", "q", 1),
)


def place_of(shelf, name, *names):
    """The place of the thing at a path of an entry."""
    place = dict(zip([entry[0] for entry in shelf.entries()], shelf.roots()))[name]
    for each in names:
        content = shelf.blocks()[place]
        place = dict(zip(content[1::2], content[2::2]))[code_of(each)]
    return place


def sample():
    """A shelf with a file of twelve leaves at a/b, one of one leaf at c, an empty folder at d, and a snapshot of it."""
    deeds = [("folder", ("a",))] + file_deeds(("a", "b"), 12) + file_deeds(("c",), 1, 9) + [("folder", ("d",))]
    return shelf_with(begun(60, True), ("house", "h", 500), ("do", "h", deeds), ("snap", "h", "s"))


def opened_without(shelf, *places):
    """The shelf opened anew where those places can't be read."""
    disk = shelf.disk.twin()
    for place in places:
        spoil(disk, place)
    return Shelf(disk)


class HurtTest(unittest.TestCase):

    def test_all_ways_not_to_be_read(self):
        shelf = sample()
        place = place_of(shelf, "h", "c")
        spot = 3 + place
        for content in ((), (7,), (0, 256), (1,), (2, 1), (2, 65, 1), (3, 0, 5), (3, 2, 5, 1, 6), (2, 1, 61), (1, 61), (3, 1, 61)):
            for copy in (0, 1):
                disk = shelf.disk.twin()
                disk.write(copy, spot, content)
                self.assertEqual(Shelf(disk).lost(), [], content)
                self.assertEqual(told(Shelf(disk)), told(shelf))
                disk.rot(1 - copy, spot, None)
                self.assertEqual(Shelf(disk).lost(), [place], content)
                disk.write(1 - copy, spot, content)
                self.assertEqual(Shelf(disk).lost(), [place], content)
        right = shelf.disk.cell(0, spot)
        for cell in (None, 5, "text", (), (right[0] + 1, right[1]), (right[0], list(right[1])), (True, right[1]), right[:1]):
            disk = shelf.disk.twin()
            disk.rot(0, spot, cell)
            self.assertEqual(Shelf(disk).lost(), [])
            self.assertEqual(told(Shelf(disk)), told(shelf))
            disk.rot(1, spot, cell)
            self.assertEqual(Shelf(disk).lost(), [place], cell)
            disk.write(1, spot, right[1])
            self.assertEqual(Shelf(disk).lost(), [])
            self.assertEqual(told(Shelf(disk)), told(shelf))

    def test_links_to_the_last_place_can_be_read(self):
        counts = [0, 1, 0, 0, 0, 0, 0, 0, 1]
        disk = written_disk(8, False, {1: (3, 1, 8), 8: (2, 0)}, [("h", "house", 1, 9)], counts)
        self.assertEqual(Shelf(disk).view("h"), folder(a=file()))

    def test_lost_places_are_told_rising_with_what_is_come_to(self):
        shelf = sample()
        file_place = place_of(shelf, "h", "a", "b")
        branch = shelf.blocks()[file_place][2]
        leaves = [shelf.blocks()[place][1:] for place in shelf.blocks()[branch][1:]]
        self.assertEqual(len(leaves), 4)
        some = [branch, place_of(shelf, "h", "d"), place_of(shelf, "h", "c")]
        hurt = opened_without(shelf, *some)
        self.assertEqual(hurt.lost(), sorted(some))
        # What hangs below such a block only is not come to, and so neither told as lost nor as a block.
        below = shelf.blocks()[branch][1:] + shelf.blocks()[place_of(shelf, "h", "c")][2:]
        blocks = {place: content for place, content in shelf.blocks().items() if place not in some and place not in below}
        self.assertLess(len(blocks), len(shelf.blocks()) - 3)
        self.assertEqual(hurt.blocks(), blocks)
        self.assertEqual(opened_without(shelf, *some, *below).lost(), sorted(some))
        self.assertEqual((hurt.roots(), hurt.counts(), hurt.generation()), (shelf.roots(), shelf.counts(), shelf.generation()))
        self.assertEqual((hurt.entries(), hurt.free(), hurt.steps()), (shelf.entries(), shelf.free(), []))

    def test_spots_that_are_not_in_use_do_not_hurt(self):
        shelf = sample()
        free = [place for place in range(1, 61) if place not in shelf.blocks()]
        other = opened_without(shelf, *free)
        self.assertEqual((other.lost(), told(other)), ([], told(shelf)))

    def test_all_deeds_are_refused_ahead_of_all_else(self):
        shelf = sample()
        hurt = opened_without(shelf, place_of(shelf, "h", "d"))
        ahead = (all_told(hurt), cells(hurt.disk))
        for call in DEEDS:
            self.assertEqual(ask(hurt, call), "Lost", call)
            self.assertEqual((all_told(hurt), cells(hurt.disk)), ahead)
        self.assertEqual(refusal(hurt.alone, "q"), "NoEntry")
        self.assertEqual(refusal(hurt.alone, "h"), "Lost")
        self.assertEqual(hurt.entries(), shelf.entries())

    def test_view_where_it_comes_to_one(self):
        shelf = sample()
        shelf.do("h", [("out", ("c",))])
        hurt = opened_without(shelf, place_of(shelf, "s", "c"))
        self.assertEqual(hurt.view("h"), shelf.view("h"))
        self.assertEqual(refusal(hurt.view, "s"), "Lost")
        self.assertEqual(refusal(hurt.view, "q"), "NoEntry")

    def test_a_leaf_gone(self):
        shelf = sample()
        leaf = shelf.blocks()[place_of(shelf, "h", "c")][2]
        hurt = opened_without(shelf, leaf)
        self.assertEqual(refusal(hurt.thing, "h", ("c",)), "Lost")
        self.assertEqual(refusal(hurt.thing, "h", ()), "Lost")
        self.assertIsNone(hurt.thing("h", ("c", "x")))
        self.assertIsNone(hurt.thing("h", ("q",)))
        self.assertEqual(hurt.thing("h", ("d",)), EMPTY)
        self.assertEqual(hurt.thing("s", ("a", "b")), shelf.thing("h", ("a", "b")))
        self.assertEqual(refusal(hurt.hold, "h", ("c",)), "Lost")
        self.assertEqual(refusal(hurt.hold, "h", ("c", "x")), "NoThing")
        self.assertEqual(refusal(hurt.hold, "h", ("d",)), "NoThing")
        self.assertEqual(refusal(hurt.hold, "h", ("q",)), "NoThing")
        self.assertEqual(refusal(hurt.hold, "q", ("c",)), "NoEntry")
        self.assertEqual(refusal(hurt.hold, "h", ()), "NoThing")

    def test_a_branch_gone(self):
        shelf = sample()
        hurt = opened_without(shelf, shelf.blocks()[place_of(shelf, "h", "a", "b")][-1])
        for call in (hurt.thing, hurt.hold, Holder(hurt).opened):
            self.assertEqual(refusal(call, "h", ("a", "b")), "Lost")
        self.assertIsNone(hurt.thing("h", ("a", "q")))
        self.assertEqual(hurt.thing("h", ("c",)), file((0, 9)))
        self.assertEqual(Holder(hurt).opened("s", ("c",)), 1)

    def test_a_folder_gone(self):
        shelf = sample()
        hurt = opened_without(shelf, place_of(shelf, "h", "a"))
        for path in (("a",), ("a", "b"), ("a", "q"), ("a", "b", "c")):
            self.assertEqual(refusal(hurt.thing, "h", path), "Lost", path)
            self.assertEqual(refusal(hurt.hold, "h", path), "Lost", path)
            self.assertEqual(refusal(Holder(hurt).opened, "s", path), "Lost", path)
        self.assertEqual(hurt.thing("h", ("d",)), EMPTY)

    def test_an_entrys_own_block_gone(self):
        shelf = sample()
        hurt = opened_without(shelf, place_of(shelf, "h"))
        for path in ((), ("a",), ("q",)):
            self.assertEqual(refusal(hurt.thing, "h", path), "Lost")
        self.assertEqual(refusal(hurt.hold, "h", ("a",)), "Lost")
        # What is at the empty path is a folder in any case.
        self.assertEqual(refusal(hurt.hold, "h", ()), "NoThing")
        self.assertEqual(hurt.blocks(), {})

    def test_a_refused_open_takes_no_number(self):
        shelf = sample()
        holder = Holder(opened_without(shelf, place_of(shelf, "h", "a")))
        self.assertEqual(refusal(holder.opened, "h", ("a", "b")), "Lost")
        self.assertEqual(holder.opened("h", ("c",)), 1)


class LostPathsTest(unittest.TestCase):

    def lost_without(self, shelf, *places):
        return lost_paths(opened_without(shelf, *places))

    def test_none_of_a_whole_shelf(self):
        self.assertEqual(lost_paths(sample()), [])
        self.assertEqual(lost_paths(Shelf(begun(8, True))), [])

    def test_each_kind_of_block_in_all_entries_that_share_it(self):
        shelf = sample()
        blocks = shelf.blocks()
        own = place_of(shelf, "h", "a", "b")
        branch = blocks[own][3]
        leaf = blocks[branch][2]
        for place in (own, branch, leaf):
            self.assertEqual(self.lost_without(shelf, place), [("h", ("a", "b")), ("s", ("a", "b"))])
        self.assertEqual(self.lost_without(shelf, own, branch, leaf), [("h", ("a", "b")), ("s", ("a", "b"))])
        self.assertEqual(self.lost_without(shelf, place_of(shelf, "h", "a")), [("h", ("a",)), ("s", ("a",))])
        self.assertEqual(self.lost_without(shelf, place_of(shelf, "h", "d")), [("h", ("d",)), ("s", ("d",))])
        self.assertEqual(self.lost_without(shelf, place_of(shelf, "h")), [("h", ()), ("s", ())])

    def test_in_one_entry_only(self):
        shelf = sample()
        shelf.do("h", [("put", ("a", "b"), 0, (77,))])
        self.assertEqual(self.lost_without(shelf, place_of(shelf, "h")), [("h", ())])
        self.assertEqual(self.lost_without(shelf, place_of(shelf, "s", "a")), [("s", ("a",))])
        leaf = [place for place, content in shelf.blocks().items() if content == (0, 77)]
        self.assertEqual(self.lost_without(shelf, *leaf), [("h", ("a", "b"))])

    def test_by_the_entries_in_order_and_then_by_paths(self):
        deeds = [("folder", (name,)) for name in ("aa", "b", "z")] + file_deeds(("b", "z"), 1) + file_deeds(("b", "aa"), 1)
        deeds += [("copy", ("b",), ("z", "b"))] + file_deeds(("y",), 2)
        shelf = shelf_with(begun(60, True), ("house", "t", 100), ("do", "t", deeds), ("snap", "t", "s"), ("house", "h", 10))
        shelf.do("h", file_deeds(("q",), 1))
        shelf.do("t", [("out", ("aa",))])
        leaf = [place for place, content in shelf.blocks().items() if content == (0, 0, 0)]
        paths = [("b", "z"), ("b", "aa"), ("y",), ("z", "b", "z"), ("z", "b", "aa")]
        due = [("t", path) for path in paths] + [("s", path) for path in paths] + [("h", ("q",))]
        self.assertEqual(len(leaf), 1)
        self.assertEqual(self.lost_without(shelf, *leaf), due)
        empty = [place for place, content in shelf.blocks().items() if content == (3,)]
        self.assertEqual(self.lost_without(shelf, *empty), [("s", ("aa",))])

    def test_just_the_told_paths_cannot_be_read(self):
        for seed in range(8):
            source, shelf, plain = long_row(seed, 120, 60)
            for number in range(6):
                blocks = sorted(shelf.blocks())
                hurt = opened_without(shelf, *source.sample(blocks, min(len(blocks), source.randint(0, 4))))
                self.check_paths(hurt, plain, lost_paths(hurt))

    def check_paths(self, hurt, plain, lost):
        due = []
        for entry, view in told(plain):
            due += [(entry[0], path) for path in self.unread(hurt, entry[0], (), view)]
            self.assertEqual(refusal(hurt.view, entry[0]), "Lost" if [pair for pair in lost if pair[0] == entry[0]] else None)
        self.assertEqual(lost, due)

    def unread(self, hurt, name, path, thing):
        """The paths that can't be read by asking for things one by one."""
        answer = refusal(hurt.thing, name, path)
        if thing[0] == "file":
            return [path] if answer else []
        # A name that no folder has is looked up in the folder itself only.
        if refusal(hurt.thing, name, path + ("qqqqqqqq",)):
            return [path]
        paths = []
        for inner, below in thing[1]:
            paths += self.unread(hurt, name, path + (inner,), below)
        self.assertEqual(answer, "Lost" if paths else None)
        return paths

    def test_blocks_that_hang_at_very_many_paths(self):
        blocks, place = dense(file((1,)))
        rows = [("s", "snap", place, "h"), ("h", "house", place + 1, 9)]
        blocks[place + 1] = (3, 1, place + 2)
        counts = counts_of({**blocks, place + 2: (2, 0)}, [place, place + 1], 40)
        shelf = Shelf(written_disk(40, True, blocks, rows, counts))
        self.assertEqual(shelf.lost(), [place + 2])
        self.assertEqual(lost_paths(shelf), [("h", ("a",))])

    def test_a_deep_one(self):
        names = ("a", "b", "c", "d", "e", "f")
        shelf = shelf_with(begun(30, True), ("house", "h", 50))
        shelf.do("h", [("folder", names[:many]) for many in range(1, 7)])
        self.assertEqual(shelf.view("h"), chain(names, EMPTY))
        self.assertEqual(self.lost_without(shelf, place_of(shelf, "h", *names)), [("h", names)])


if __name__ == "__main__":
    unittest.main()
