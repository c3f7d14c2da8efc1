"""Open files, and what a shelf holds (26, the interface's last paragraph)."""

import random
import unittest

from helper import ask, begun, file, file_deeds, folder, refusal, shelf_with
from snapshelf.holder import Holder
from snapshelf.shelf import Shelf
from snapshelf.trees import come_to


def sample(places=60, once=True):
    """A shelf with a file of five leaves at a, an empty one at d/b, and a snapshot of it."""
    deeds = file_deeds(("a",), 5) + [("folder", ("d",)), ("file", ("d", "b"))]
    return shelf_with(begun(places, once), ("house", "h", 50), ("do", "h", deeds), ("snap", "h", "s"))


LEAVES = tuple((at, 0) for at in range(5))


class HolderTest(unittest.TestCase):

    def test_numbers(self):
        holder = Holder(sample())
        self.assertEqual([holder.opened("h", ("a",)) for k in range(3)], [1, 2, 3])
        self.assertIsNone(holder.closed(2))
        self.assertEqual(holder.opened("s", ("d", "b")), 4)
        holder.closed(4)
        self.assertEqual(holder.opened("s", ("a",)), 5)
        self.assertEqual([holder.leaves(number) for number in (1, 3, 5)], [LEAVES] * 3)

    def test_leaves(self):
        holder = Holder(sample())
        holder.opened("h", ("a",))
        holder.opened("h", ("d", "b"))
        self.assertEqual(holder.leaves(1), LEAVES)
        self.assertEqual(holder.leaves(2), ())

    def test_refusals(self):
        holder = Holder(sample())
        for name in ("x", "hh"):
            self.assertEqual(refusal(holder.opened, name, ("q",)), "NoEntry")
        for path in ((), ("d",), ("q",), ("a", "a"), ("d", "b", "c"), ("q", "r")):
            self.assertEqual(refusal(holder.opened, "h", path), "NoThing", path)
        for number in (0, 1, -1, 99):
            self.assertEqual(refusal(holder.leaves, number), "NotOpen")
            self.assertEqual(refusal(holder.closed, number), "NotOpen")
        # What is refused takes no number.
        self.assertEqual(holder.opened("h", ("a",)), 1)
        holder.closed(1)
        self.assertEqual(refusal(holder.leaves, 1), "NotOpen")
        self.assertEqual(refusal(holder.closed, 1), "NotOpen")

    def test_as_it_was_whatever_is_done_meanwhile(self):
        for once in (True, False):
            shelf = sample(60, once)
            shelf.drop("s")
            holder = Holder(shelf)
            holder.opened("h", ("a",))
            shelf.do("h", [("put", ("a",), 2, (99,))])
            holder.opened("h", ("a",))
            shelf.do("h", [("trim", ("a",), 1)])
            shelf.do("h", [("move", ("a",), ("d", "c"))])
            shelf.do("h", [("out", ("d",))])
            changed = LEAVES[:2] + ((99,),) + LEAVES[3:]
            self.assertEqual((holder.leaves(1), holder.leaves(2)), (LEAVES, changed))
            shelf.drop("h")
            self.assertEqual((shelf.entries(), shelf.blocks()), ([], {}))
            for at in range(30):
                shelf.house("h", 500)
                shelf.do("h", file_deeds(("z",), 6, at))
                shelf.drop("h")
            self.assertEqual((holder.leaves(1), holder.leaves(2)), (LEAVES, changed))
            holder.closed(1)
            self.assertEqual(holder.leaves(2), changed)
            holder.closed(2)
            self.assertEqual(shelf.free(), 60)

    def test_two_holders_of_one_shelf(self):
        shelf = sample()
        first, second = Holder(shelf), Holder(shelf)
        self.assertEqual((first.opened("h", ("a",)), second.opened("h", ("a",))), (1, 1))
        shelf.drop("h")
        shelf.drop("s")
        first.closed(1)
        self.assertEqual(second.leaves(1), LEAVES)
        self.assertLess(shelf.free(), 60)
        second.closed(1)
        self.assertEqual(shelf.free(), 60)


class HoldTest(unittest.TestCase):

    def test_a_place_and_its_thing(self):
        shelf = sample()
        place = shelf.hold("h", ("a",))
        self.assertEqual(shelf.blocks()[place][:2], (2, 5))
        self.assertEqual(shelf.held_thing(place), file(*LEAVES))
        self.assertEqual(shelf.hold("s", ("a",)), place)
        self.assertIsNone(shelf.let_hold(place))
        self.assertEqual(shelf.held_thing(place), file(*LEAVES))

    def test_refusals(self):
        shelf = sample()
        self.assertEqual(refusal(shelf.hold, "x", ("a",)), "NoEntry")
        for path in ((), ("d",), ("q",), ("a", "b")):
            self.assertEqual(refusal(shelf.hold, "h", path), "NoThing")
        self.assertEqual(shelf.free(), 60 - len(shelf.blocks()))

    def test_as_often_as_it_was_asked(self):
        shelf = sample()
        own = come_to(shelf.blocks(), [shelf.hold("h", ("a",))])
        place = shelf.hold("s", ("a",))
        shelf.drop("h")
        shelf.drop("s")
        self.assertEqual(shelf.free(), 60 - len(own))
        shelf.let_hold(place)
        self.assertEqual(shelf.free(), 60 - len(own))
        shelf.let_hold(place)
        self.assertEqual(shelf.free(), 60)

    def test_no_block_is_written_over(self):
        for once in (True, False):
            shelf = sample(40, once)
            place = shelf.hold("h", ("a",))
            own = come_to(shelf.blocks(), [place])
            cells = [shelf.disk.cell(copy, 3 + each) for copy in (0, 1) for each in own]
            shelf.drop("h")
            shelf.drop("s")
            shelf.house("h", 500)
            source = random.Random(3)
            fulls = 0
            for at in range(80):
                deeds = file_deeds((source.choice("pqrst"),), source.randint(1, 7), at)
                if ask(shelf, ("do", "h", deeds)) == "Full":
                    fulls += 1
                    shelf.do("h", [("out", (name,)) for name, thing in shelf.view("h")[1]])
                self.assertEqual([shelf.disk.cell(copy, 3 + each) for copy in (0, 1) for each in own], cells)
                self.assertEqual(shelf.held_thing(place), file(*LEAVES))
                self.assertFalse(set(own) & set(shelf.blocks()))
                self.assertEqual(shelf.free(), 40 - len(own) - len(shelf.blocks()))
            self.assertGreater(fulls, 0)

    def test_the_same_file_made_again_stands_elsewhere(self):
        # A held block that doesn't hang can't be put again, so where it is to hang another one comes.
        shelf = sample()
        place = shelf.hold("h", ("a",))
        own = come_to(shelf.blocks(), [place])
        shelf.drop("h")
        shelf.drop("s")
        shelf.house("h", 50)
        shelf.do("h", file_deeds(("a",), 5))
        self.assertFalse(set(own) & set(shelf.blocks()))
        self.assertEqual(Shelf(shelf.disk).view("h"), folder(a=file(*LEAVES)))
        other = shelf.hold("h", ("a",))
        self.assertNotEqual(other, place)
        shelf.let_hold(place)
        self.assertEqual(shelf.held_thing(other), file(*LEAVES))

    def test_files_that_share_blocks(self):
        shelf = sample()
        shelf.do("h", [("copy", ("a",), ("b",)), ("put", ("b",), 4, (9,))])
        first, second = shelf.hold("h", ("a",)), shelf.hold("h", ("b",))
        both = come_to(shelf.blocks(), [first, second])
        shelf.drop("h")
        shelf.drop("s")
        self.assertEqual(shelf.free(), 60 - len(both))
        shelf.let_hold(first)
        self.assertEqual(shelf.held_thing(second), file(*LEAVES[:4], (9,)))
        self.assertGreater(shelf.free(), 60 - len(both))
        shelf.let_hold(second)
        self.assertEqual(shelf.free(), 60)

    def test_full_while_blocks_are_held_and_not_when_they_are_let_go(self):
        for once in (True, False):
            shelf = shelf_with(begun(20, once), ("house", "h", 50), ("do", "h", file_deeds(("a",), 10)))
            place = shelf.hold("h", ("a",))
            shelf.do("h", [("out", ("a",))])
            held = 20 - shelf.free() - len(shelf.blocks())
            self.assertEqual(held, 14)
            deeds = file_deeds(("b",), 10, 7)
            self.assertEqual(ask(shelf, ("do", "h", deeds)), "Full")
            self.assertEqual(shelf.held_thing(place)[1][9], (9, 0))
            shelf.let_hold(place)
            self.assertEqual(shelf.free(), 19)
            self.assertIsNone(ask(shelf, ("do", "h", deeds)))

    def test_held_and_hanging_counts_once(self):
        shelf = sample()
        free = shelf.free()
        place = shelf.hold("h", ("a",))
        self.assertEqual(shelf.free(), free)
        shelf.let_hold(place)
        self.assertEqual(shelf.free(), free)

    def test_a_shelf_opened_anew_holds_nothing(self):
        shelf = sample()
        shelf.hold("h", ("a",))
        shelf.drop("h")
        shelf.drop("s")
        self.assertEqual(Shelf(shelf.disk).free(), 60)


if __name__ == "__main__":
    unittest.main()
