"""A shelf on a disk: its answers and what it tells (22, 27, 11, 12, 2, 3)."""

import random
import unittest

from helper import (
    EMPTY, all_told, ask, begun, both_asked, cells, chain, dense, file, file_deeds, folder, long_row, plain_twin,
    refusal, shelf_with, some_call, told, walked, written_disk,
)
from snapshelf.changing import changed
from snapshelf.counts import counts_of
from snapshelf.disk import Disk
from snapshelf.opening import newest
from snapshelf.plainshelf import PlainShelf
from snapshelf.shelf import Shelf
from snapshelf.stock import Stock
from snapshelf.things import paths_of, thing_at
from snapshelf.trees import thing_of


class LongRowsTest(unittest.TestCase):

    def check_told(self, shelf, plain):
        """What the shelf tells is what the shelf of views tells, and what walking from its roots tells."""
        self.assertEqual(told(shelf), told(plain))
        blocks, roots = shelf.blocks(), shelf.roots()
        hangers = walked(blocks, roots)
        self.assertEqual([thing_of(blocks, place) for place in roots], [view for entry, view in told(plain)])
        self.assertEqual(sorted(blocks), sorted(hangers))
        places = shelf.disk.places
        self.assertEqual(shelf.counts(), [len(hangers.get(place, ())) for place in range(places + 1)])
        self.assertEqual(shelf.free(), places - len(hangers))
        self.assertEqual(shelf.lost(), [])
        if shelf.once():
            self.assertEqual(len(set(blocks.values())), len(blocks))

    def check_things(self, source, shelf, plain):
        for entry, view in told(plain):
            for path in paths_of(view) + [(), ("q",), ("a", "q"), ("a", "a", "a", "a", "a", "a")]:
                self.assertEqual(shelf.thing(entry[0], (path + ("a",))[:6]), thing_at(view, (path + ("a",))[:6]))
                self.assertEqual(shelf.thing(entry[0], path), thing_at(view, path))

    def run_row(self, seed, places, once, anew):
        source = random.Random(seed)
        disk = begun(places, once)
        shelf, plain = Shelf(disk), PlainShelf()
        answers = {}
        for number in range(150):
            call = some_call(source, plain)
            ahead = (all_told(shelf), cells(disk))
            answer, plain_answer = both_asked(shelf, plain, call)
            answers[answer] = answers.get(answer, 0) + 1
            if answer == "Full":
                self.assertIsNone(plain_answer, call)
            else:
                self.assertEqual(answer, plain_answer, call)
            if answer is not None:
                self.assertEqual((all_told(shelf), cells(disk)), ahead, call)
            self.check_told(shelf, plain)
            if anew and number % 7 == 0:
                steps_left_out = all_told(shelf)[2:]
                shelf = Shelf(disk)
                self.assertEqual(shelf.steps(), [])
                self.assertEqual(all_told(shelf)[2:], steps_left_out)
        self.check_things(source, shelf, plain)
        return answers

    def test_as_a_shelf_of_views(self):
        seen = {}
        for seed in range(12):
            answers = self.run_row(seed, (30, 60, 400)[seed % 3], seed % 2 == 0, seed % 4 > 1)
            seen.update(answers)
        for why in (None, "Taken", "TooMany", "NoHouse", "NoSnap", "NoEntry", "NoRoom", "NoDeed", "NoThing", "Full"):
            self.assertIn(why, seen)

    def test_kept_once_or_not_reads_alike(self):
        source = random.Random(5)
        shelves = [Shelf(begun(400, once)) for once in (True, False)]
        plain = PlainShelf()
        for number in range(150):
            call = some_call(source, plain)
            answer = ask(plain, call)
            for shelf in shelves:
                self.assertEqual(ask(shelf, call), answer)
                self.assertEqual(told(shelf), told(plain))
        self.assertEqual([shelf.once() for shelf in shelves], [True, False])
        self.assertLess(len(shelves[0].blocks()), len(shelves[1].blocks()))

    def test_snapshots_and_clones(self):
        shelf = shelf_with(begun(100, True), ("house", "h", 50), ("do", "h", file_deeds(("a",), 5)), ("snap", "h", "s"))
        taken = shelf.view("s")
        shelf.clone("s", "c", 60)
        shelf.do("c", [("out", ("a",)), ("folder", ("b",))])
        self.assertEqual(shelf.view("h"), taken)
        shelf.do("h", [("put", ("a",), 4, (9, 9))])
        self.assertEqual(shelf.view("s"), taken)
        self.assertEqual(shelf.view("c"), folder(b=EMPTY))
        shelf.back("h", "s")
        self.assertEqual(shelf.view("h"), taken)
        self.assertEqual(shelf.entries(), [("h", "house", 50), ("s", "snap", "h"), ("c", "house", 60)])
        shelf.drop("h")
        self.assertEqual(shelf.entries(), [("s", "snap", "h"), ("c", "house", 60)])
        self.assertEqual(shelf.view("s"), taken)

    def test_thousand_deeds_as_one(self):
        deeds = []
        for number in range(500):
            path = ("abcdefgh"[number % 8], "abcdefgh"[number // 8 % 8])
            deeds += [("folder", path[:1])] if number < 8 else []
            deeds += [("file", path)] if number < 64 else [("put", path, 0, (number % 256,))]
        while len(deeds) < 1000:
            deeds.append(("put", ("a", "a"), 0, (len(deeds) % 256, 1)))
        self.assertEqual(len(deeds), 1000)
        for once in (True, False):
            shelf, plain = Shelf(begun(400, once)), PlainShelf()
            for one in (shelf, plain):
                one.house("h", 500)
                one.do("h", deeds)
            self.assertEqual(told(shelf), told(plain))
            self.assertEqual(told(Shelf(shelf.disk)), told(plain))
            self.assertEqual(shelf.generation(), 3)


class RefusalsTest(unittest.TestCase):
    """Each deed's refusals, where several are due the first one."""

    def refused(self, shelf, why, *call):
        ahead = (all_told(shelf), cells(shelf.disk))
        self.assertEqual(ask(shelf, call), why, call)
        self.assertEqual((all_told(shelf), cells(shelf.disk)), ahead)

    def crowded(self):
        """A shelf of twelve entries on a disk without a place left."""
        shelf = shelf_with(begun(10, False), ("house", "h", 5), ("do", "h", [("file", ("a",)), ("put", ("a",), 0, (1,))]))
        for name in "bcdefgi":
            shelf.house(name, 5)
        for name in ("s", "t", "u", "v"):
            shelf.snap("h", name)
        self.assertEqual((len(shelf.entries()), shelf.free()), (12, 0))
        return shelf

    def test_house(self):
        shelf = self.crowded()
        self.refused(shelf, "Taken", "house", "s", 5)
        self.refused(shelf, "TooMany", "house", "x", 5)
        shelf.drop("v")
        self.refused(shelf, "Taken", "house", "h", 5)
        self.refused(shelf, "Full", "house", "x", 5)

    def test_do(self):
        shelf = self.crowded()
        self.refused(shelf, "NoHouse", "do", "s", [None])
        self.refused(shelf, "NoHouse", "do", "x", [])
        put = ("put", ("a",), 0, (2,))
        self.refused(shelf, "Full", "do", "h", [put])
        self.refused(shelf, "NoDeed", "do", "h", [put, ("out", ("q",)), ("out",)])
        self.refused(shelf, "NoThing", "do", "h", [put, put, ("out", ("q",))])
        self.refused(shelf, "NoRoom", "do", "h", [("put", ("a",), 1, (2,)), ("folder", ("b",)), ("file", ("c",))])
        self.refused(shelf, "Full", "do", "h", [("put", ("a",), 1, (2,)), ("folder", ("b",))])

    def test_what_the_last_deed_of_a_long_list_refuses_is_told_ahead_of_full(self):
        for once in (True, False):
            shelf = shelf_with(begun(20, once), ("house", "h", 500))
            deeds = [deed for name in "abc" for deed in file_deeds((name,), 64, ord(name))]
            self.refused(shelf, "Full", "do", "h", deeds)
            self.refused(shelf, "NoThing", "do", "h", deeds + [("out", ("q",))])
            self.refused(shelf, "NoRoom", "do", "h", deeds + [("copy", ("a",), (name,)) for name in "defgh"])

    def test_a_list_is_refused_as_a_whole(self):
        shelf = shelf_with(begun(50, True), ("house", "h", 5))
        self.refused(shelf, "Taken", "do", "h", [("folder", ("a",)), ("folder", ("a",))])
        self.refused(shelf, "NoRoom", "do", "h", [("folder", (name,)) for name in "abcde"])
        self.assertIsNone(ask(shelf, ("do", "h", [("folder", (name,)) for name in "abcde"] + [("out", ("a",))])))

    def test_snap_and_back_and_clone(self):
        shelf = self.crowded()
        self.refused(shelf, "NoHouse", "snap", "s", "h")
        self.refused(shelf, "Taken", "snap", "h", "s")
        self.refused(shelf, "TooMany", "snap", "h", "x")
        self.refused(shelf, "NoHouse", "back", "x", "y")
        self.refused(shelf, "NoSnap", "back", "h", "b")
        shelf.rebound("b", 2)
        self.refused(shelf, "NoRoom", "back", "b", "s")
        self.refused(shelf, "NoSnap", "clone", "h", "b", 1)
        self.refused(shelf, "Taken", "clone", "s", "b", 1)
        self.refused(shelf, "TooMany", "clone", "s", "x", 1)
        shelf.drop("v")
        self.refused(shelf, "NoRoom", "clone", "s", "x", 2)
        self.assertIsNone(ask(shelf, ("clone", "s", "x", 3)))

    def test_drop_and_rebound_and_view_and_thing(self):
        shelf = self.crowded()
        self.refused(shelf, "NoEntry", "drop", "x")
        self.refused(shelf, "NoHouse", "rebound", "s", 1)
        self.refused(shelf, "NoRoom", "rebound", "h", 2)
        self.assertIsNone(ask(shelf, ("rebound", "h", 3)))
        self.refused(shelf, "NoEntry", "view", "x")
        self.refused(shelf, "NoEntry", "thing", "x", ())
        self.refused(shelf, "NoEntry", "alone", "x")
        for name in "abc":
            self.assertIsNone(shelf.thing("h", ("a", name)))
            self.assertIsNone(shelf.thing("h", ("a", name, name)))
        self.assertIsNone(shelf.thing("h", ("b",)))
        self.assertEqual(shelf.thing("h", ()), shelf.view("h"))
        self.assertEqual(shelf.thing("h", ("a",)), file((1,)))

    def test_what_needs_no_place_is_never_full(self):
        shelf = self.crowded()
        shelf.drop("u")
        shelf.drop("v")
        for call in (("snap", "h", "x"), ("clone", "x", "y", 9), ("back", "h", "s"), ("rebound", "h", 9), ("do", "h", [])):
            self.assertIsNone(ask(shelf, call), call)
        self.assertIsNone(ask(shelf, ("do", "h", [("put", ("a",), 0, (1,))])))

    def test_no_disk(self):
        self.assertEqual(refusal(Shelf, Disk(9)), "NoDisk")


class FullTest(unittest.TestCase):

    def test_never_where_sixteen_are_left_at_each_deed(self):
        fulls = 0
        for seed in range(10):
            source, shelf, plain = long_row(seed, 45, 0)
            for number in range(120):
                call = some_call(source, plain)
                left = self.least_left(shelf, call) if ask(plain_twin(plain), call) is None else 0
                answer, plain_answer = both_asked(shelf, plain, call)
                if answer == "Full":
                    fulls += 1
                    self.assertLess(left, 16, call)
        self.assertGreater(fulls, 10)

    def least_left(self, shelf, call):
        """How many places are left, at the least, ahead of a deed of the call."""
        left = [shelf.free()]
        if call[0] == "do":
            place = dict(zip([entry[0] for entry in shelf.entries()], shelf.roots()))[call[1]]
            stock = Stock(shelf.blocks(), 9999, [], shelf.once())
            for deed in call[2]:
                left.append(shelf.free() - len(stock.new()))
                place = changed(stock, place, deed)
                stock.keep(place)
        return min(left)

    def test_what_an_earlier_deed_needed_comes_free_for_a_later_one(self):
        for once in (True, False):
            shelf = shelf_with(begun(40, once), ("house", "h", 100), ("do", "h", file_deeds(("a",), 7)))
            self.assertGreaterEqual(shelf.free(), 25)
            shelf.do("h", [("put", ("a",), at % 7, (at % 256, at // 256)) for at in range(1000)])
            self.assertEqual(shelf.thing("h", ("a",))[1][999 % 7], (999 % 256, 3))

    def test_house_down_to_the_last_place(self):
        shelf = Shelf(begun(8, False))
        for name in "abcdefgh":
            shelf.house(name, 5)
        self.assertEqual(shelf.free(), 0)
        self.assertEqual(ask(shelf, ("house", "i", 5)), "Full")
        shelf.drop("c")
        self.assertIsNone(ask(shelf, ("house", "i", 5)))

    def test_houses_share_their_empty_view_where_blocks_are_kept_once(self):
        shelf = Shelf(begun(8, True))
        for name in "abcdefghijkl":
            shelf.house(name, 5)
        self.assertEqual(shelf.free(), 7)
        self.assertEqual(len(set(shelf.roots())), 1)

    def test_all_bounds_fit_on_a_large_disk(self):
        shelf = Shelf(begun(400, False))
        shelf.house("h", 500)
        shelf.do("h", [deed for name in "abcd" for deed in file_deeds((name,), 64)])
        self.assertEqual(len(shelf.view("h")[1]), 4)


class AloneTest(unittest.TestCase):

    def test_what_a_drop_frees_is_what_was_told(self):
        for seed in range(6):
            source, shelf, plain = long_row(seed, 150, 0)
            for number in range(60):
                both_asked(shelf, plain, some_call(source, plain))
                for entry in shelf.entries():
                    other = Shelf(shelf.disk.twin())
                    alone = shelf.alone(entry[0])
                    other.drop(entry[0])
                    gone = [place for place in shelf.blocks() if place not in other.blocks()]
                    self.assertEqual(alone, sorted(gone))
                    self.assertEqual(other.free(), shelf.free() + len(alone))

    def test_all_shared_and_nothing_shared(self):
        shelf = shelf_with(begun(100, True), ("house", "h", 50), ("do", "h", file_deeds(("a",), 5)), ("snap", "h", "s"))
        self.assertEqual((shelf.alone("h"), shelf.alone("s")), ([], []))
        shelf.drop("s")
        self.assertEqual(shelf.alone("h"), sorted(shelf.blocks()))
        shelf.house("i", 50)
        shelf.do("i", [("folder", ("b",))])
        self.assertEqual(len(shelf.alone("i")), 2)
        self.assertEqual(sorted(shelf.alone("h") + shelf.alone("i")), sorted(shelf.blocks()))

    def test_no_entry(self):
        shelf = shelf_with(begun(10, True), ("house", "h", 50))
        for name in ("a", "", "hh"):
            self.assertEqual(refusal(shelf.alone, name), "NoEntry")


class TellingTest(unittest.TestCase):

    def test_at_first(self):
        shelf = Shelf(begun(8, True))
        self.assertEqual(all_told(shelf), ([], [], 1, [], [0] * 9, {}, True, [], 8))

    def test_lists_and_dicts_are_the_askers_own(self):
        shelf = shelf_with(begun(30, True), ("house", "h", 50), ("do", "h", [("file", ("a",))]))
        ahead = all_told(shelf)
        for one in all_told(shelf) + (shelf.alone("h"),):
            if isinstance(one, (list, dict)):
                one.clear()
        self.assertEqual(all_told(shelf), ahead)
        deeds = [("file", ("b",))]
        shelf.do("h", deeds)
        self.assertEqual(deeds, [("file", ("b",))])
        view = shelf.view("h")
        deeds.append(("out", ("b",)))
        self.assertEqual(shelf.view("h"), view)

    def test_opened_by_the_newest_root(self):
        disk = begun(30, False)
        shelf = shelf_with(disk, ("house", "h", 50), ("do", "h", [("file", ("a",))]), ("snap", "h", "s"))
        generation, once, rows, counts = newest(disk)
        self.assertEqual((generation, once, counts), (shelf.generation(), False, shelf.counts()))
        self.assertEqual([row[2] for row in rows], shelf.roots())
        for copy in (0, 1):
            disk.rot(copy, generation % 2, None)
        self.assertEqual(Shelf(disk).entries(), [("h", "house", 50)])
        self.assertEqual(shelf.entries(), [("h", "house", 50), ("s", "snap", "h")])

    def test_what_rots_meanwhile_is_not_met(self):
        disk = begun(30, True)
        shelf = shelf_with(disk, ("house", "h", 50), ("do", "h", file_deeds(("a",), 5)))
        view = shelf.view("h")
        for spot in range(4, 34):
            for copy in (0, 1):
                disk.rot(copy, spot, None)
        self.assertEqual(shelf.view("h"), view)
        self.assertEqual(shelf.lost(), [])
        self.assertIsNone(ask(shelf, ("do", "h", [("file", ("b",))])))

    def test_blocks_that_hang_at_very_many_paths(self):
        # No thing of them is told, but they hang, are counted, dropped and refused for their room.
        blocks, place = dense(file((1,)))
        rows = [("h", "house", place, 500), ("s", "snap", place, "h")]
        counts = counts_of(blocks, [place, place], 40)
        shelf = Shelf(written_disk(40, True, blocks, rows, counts))
        self.assertEqual(shelf.counts(), counts)
        for call in (("rebound", "h", 400), ("back", "h", "s"), ("clone", "s", "c", 500), ("do", "h", [])):
            self.assertEqual(ask(shelf, call), "NoRoom", call)
        self.assertEqual(shelf.thing("h", ("a", "b", "c", "d", "e", "f")), file((1,)))
        self.assertEqual(shelf.alone("h"), [])
        shelf.do("h", [("out", (name,)) for name in "abcdefgh"])
        self.assertEqual(shelf.view("h"), EMPTY)
        shelf.drop("s")
        self.assertEqual(len(shelf.blocks()), 1)

    def test_the_longest_path(self):
        shelf = shelf_with(begun(30, True), ("house", "h", 50))
        names = ("a", "b", "c", "d", "e", "zzzzzzzz")
        shelf.do("h", [("folder", names[:many]) for many in range(1, 6)] + [("file", names)])
        self.assertEqual(shelf.view("h"), chain(names, file()))
        self.assertEqual(Shelf(shelf.disk).thing("h", names), file())


if __name__ == "__main__":
    unittest.main()
