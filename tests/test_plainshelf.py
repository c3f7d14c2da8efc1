"""A shelf of views (11, 12, 2, 3)."""

import random
import unittest

from helper import EMPTY, file, folder, refusal
from snapshelf.deeds import all_done
from snapshelf.plainshelf import PlainShelf
from snapshelf.things import room_of, thing_at

A_FILE = [("file", ("a",))]
THREE = [("file", ("a",)), ("put", ("a",), 0, (1,)), ("put", ("a",), 1, (2,))]


def told(shelf):
    """All that the shelf tells."""
    return [(entry, shelf.view(entry[0])) for entry in shelf.entries()]


def shelf_of(*names):
    """A shelf with houses of these names, with bound 10 each."""
    shelf = PlainShelf()
    for name in names:
        shelf.house(name, 10)
    return shelf


class ShelfTest(unittest.TestCase):

    def refused(self, shelf, why, deed, *args):
        """The deed is refused so, and changes nothing."""
        ahead = told(shelf)
        self.assertEqual(refusal(getattr(shelf, deed), *args), why, (deed, args))
        self.assertEqual(told(shelf), ahead)


class EntriesTest(ShelfTest):

    def test_none_at_first(self):
        self.assertEqual(PlainShelf().entries(), [])

    def test_told_in_the_order_in_which_they_came(self):
        shelf = shelf_of("z", "b")
        shelf.snap("b", "m")
        shelf.house("a", 500)
        shelf.clone("m", "c", 1)
        self.assertEqual(shelf.entries(), [
            ("z", "house", 10), ("b", "house", 10), ("m", "snap", "b"), ("a", "house", 500), ("c", "house", 1),
        ])
        shelf.drop("b")
        shelf.house("b", 3)
        shelf.snap("c", "s")
        self.assertEqual(shelf.entries(), [
            ("z", "house", 10), ("m", "snap", "b"), ("a", "house", 500), ("c", "house", 1), ("b", "house", 3), ("s", "snap", "c"),
        ])

    def test_deeds_keep_the_order(self):
        shelf = shelf_of("a", "b", "c")
        shelf.snap("a", "s")
        shelf.do("b", A_FILE)
        shelf.rebound("a", 7)
        shelf.back("a", "s")
        self.assertEqual([entry[0] for entry in shelf.entries()], ["a", "b", "c", "s"])

    def test_all_deeds_tell_none(self):
        shelf = PlainShelf()
        self.assertIsNone(shelf.house("a", 5))
        self.assertIsNone(shelf.do("a", A_FILE))
        self.assertIsNone(shelf.snap("a", "s"))
        self.assertIsNone(shelf.back("a", "s"))
        self.assertIsNone(shelf.clone("s", "b", 5))
        self.assertIsNone(shelf.rebound("b", 6))
        self.assertIsNone(shelf.drop("b"))

    def test_twelve_entries_and_one_more(self):
        shelf = shelf_of(*"abcdefghijk")
        shelf.snap("a", "s")
        self.assertEqual(len(shelf.entries()), 12)
        self.refused(shelf, "TooMany", "house", "x", 5)
        self.refused(shelf, "TooMany", "snap", "a", "x")
        self.refused(shelf, "TooMany", "clone", "s", "x", 5)
        shelf.drop("k")
        shelf.clone("s", "x", 5)
        self.assertEqual(shelf.entries()[-1], ("x", "house", 5))

    def test_twelve_snapshots_and_clones(self):
        shelf = shelf_of("a")
        for name in "bcdefghijkl":
            shelf.snap("a", name)
        self.refused(shelf, "TooMany", "snap", "a", "m")
        shelf.drop("l")
        shelf.snap("a", "m")
        self.refused(shelf, "TooMany", "clone", "m", "n", 1)


class DeedsTest(ShelfTest):

    def test_a_new_house_is_empty(self):
        self.assertEqual(shelf_of("h").view("h"), EMPTY)

    def test_house_refused(self):
        shelf = shelf_of(*"abcdefghijkl")
        self.refused(shelf, "Taken", "house", "a", 5)
        self.refused(shelf, "TooMany", "house", "m", 5)
        shelf.drop("l")
        shelf.snap("a", "s")
        self.refused(shelf, "Taken", "house", "s", 5)

    def test_do(self):
        shelf = shelf_of("h")
        shelf.do("h", THREE)
        self.assertEqual(shelf.view("h"), folder(a=file((1,), (2,))))
        shelf.do("h", [("out", ("a",)), ("folder", ("b",))])
        self.assertEqual(shelf.view("h"), folder(b=EMPTY))
        shelf.do("h", [])
        self.assertEqual(shelf.view("h"), folder(b=EMPTY))

    def test_do_refused(self):
        shelf = shelf_of("h")
        shelf.snap("h", "s")
        self.refused(shelf, "NoHouse", "do", "x", A_FILE)
        self.refused(shelf, "NoHouse", "do", "s", A_FILE)
        self.refused(shelf, "NoHouse", "do", "x", [None])
        self.refused(shelf, "NoDeed", "do", "h", A_FILE + [None])
        self.refused(shelf, "NoDeed", "do", "h", [("out", ("x",)), ("out", ())])
        self.refused(shelf, "Taken", "do", "h", A_FILE + A_FILE)
        self.refused(shelf, "NoThing", "do", "h", A_FILE + [("out", ("b",))])
        self.refused(shelf, "NoLeaf", "do", "h", A_FILE + [("put", ("a",), 1, ())])

    def test_room_just_at_the_bound_and_one_above(self):
        shelf = PlainShelf()
        shelf.house("h", 4)
        shelf.do("h", THREE)
        self.assertEqual(room_of(shelf.view("h")), 4)
        self.refused(shelf, "NoRoom", "do", "h", [("put", ("a",), 2, ())])
        self.refused(shelf, "NoRoom", "do", "h", [("folder", ("b",))])
        shelf.do("h", [("put", ("a",), 1, (9,))])

    def test_room_counts_behind_all_deeds_only(self):
        shelf = PlainShelf()
        shelf.house("h", 2)
        shelf.do("h", [("folder", ("b",)), ("file", ("c",)), ("out", ("b",))])
        self.assertEqual(shelf.view("h"), folder(c=file()))

    def test_a_deeds_refusal_comes_ahead_of_no_room(self):
        shelf = PlainShelf()
        shelf.house("h", 1)
        self.refused(shelf, "NoThing", "do", "h", A_FILE + [("out", ("b",))])
        self.refused(shelf, "NoRoom", "do", "h", A_FILE)

    def test_a_bound_of_five_hundred(self):
        shelf = PlainShelf()
        shelf.house("h", 500)
        deeds = []
        for name in "abcdefg":
            deeds += [("file", (name,))] + [("put", (name,), k, ()) for k in range(64)]
        shelf.do("h", deeds + [("file", ("h",))] + [("put", ("h",), k, ()) for k in range(43)])
        self.assertEqual(room_of(shelf.view("h")), 500)
        self.refused(shelf, "NoRoom", "do", "h", [("put", ("h",), 43, ())])

    def test_snap_refused(self):
        shelf = shelf_of("h")
        shelf.snap("h", "s")
        self.refused(shelf, "NoHouse", "snap", "x", "t")
        self.refused(shelf, "NoHouse", "snap", "s", "t")
        self.refused(shelf, "NoHouse", "snap", "x", "h")
        self.refused(shelf, "Taken", "snap", "h", "h")
        self.refused(shelf, "Taken", "snap", "h", "s")
        for name in "abcdefgijk":
            shelf.house(name, 1)
        self.refused(shelf, "Taken", "snap", "h", "s")
        self.refused(shelf, "NoHouse", "snap", "x", "y")
        self.refused(shelf, "TooMany", "snap", "h", "y")

    def test_back(self):
        shelf = shelf_of("h", "g")
        shelf.do("h", THREE)
        shelf.snap("h", "s")
        shelf.do("h", [("out", ("a",))])
        shelf.back("h", "s")
        self.assertEqual(shelf.view("h"), folder(a=file((1,), (2,))))
        shelf.back("g", "s")
        self.assertEqual(shelf.view("g"), folder(a=file((1,), (2,))))
        self.assertEqual(shelf.entries(), [("h", "house", 10), ("g", "house", 10), ("s", "snap", "h")])

    def test_back_refused(self):
        shelf = shelf_of("h")
        shelf.house("g", 3)
        shelf.house("f", 4)
        shelf.do("h", THREE)
        shelf.snap("h", "s")
        self.refused(shelf, "NoHouse", "back", "x", "s")
        self.refused(shelf, "NoHouse", "back", "s", "s")
        self.refused(shelf, "NoHouse", "back", "x", "y")
        self.refused(shelf, "NoSnap", "back", "h", "x")
        self.refused(shelf, "NoSnap", "back", "h", "h")
        self.refused(shelf, "NoSnap", "back", "g", "h")
        self.refused(shelf, "NoRoom", "back", "g", "s")
        shelf.back("f", "s")
        self.assertEqual(shelf.view("f"), shelf.view("s"))

    def test_clone(self):
        shelf = shelf_of("h")
        shelf.do("h", THREE)
        shelf.snap("h", "s")
        shelf.do("h", [("out", ("a",))])
        shelf.clone("s", "c", 4)
        self.assertEqual(shelf.entries()[-1], ("c", "house", 4))
        self.assertEqual(shelf.view("c"), folder(a=file((1,), (2,))))

    def test_clone_refused(self):
        shelf = shelf_of("h")
        shelf.do("h", THREE)
        shelf.snap("h", "s")
        self.refused(shelf, "NoSnap", "clone", "x", "h", 1)
        self.refused(shelf, "NoSnap", "clone", "h", "c", 1)
        self.refused(shelf, "Taken", "clone", "s", "h", 1)
        self.refused(shelf, "Taken", "clone", "s", "s", 1)
        self.refused(shelf, "NoRoom", "clone", "s", "c", 3)
        for name in "abcdefgijk":
            shelf.house(name, 1)
        self.refused(shelf, "NoSnap", "clone", "x", "h", 1)
        self.refused(shelf, "Taken", "clone", "s", "a", 1)
        self.refused(shelf, "TooMany", "clone", "s", "x", 3)
        self.refused(shelf, "TooMany", "clone", "s", "x", 4)

    def test_drop(self):
        shelf = shelf_of("h")
        shelf.snap("h", "s")
        self.refused(shelf, "NoEntry", "drop", "x")
        shelf.drop("h")
        self.assertEqual(shelf.entries(), [("s", "snap", "h")])
        self.refused(shelf, "NoEntry", "drop", "h")
        shelf.drop("s")
        self.assertEqual(shelf.entries(), [])

    def test_rebound(self):
        shelf = shelf_of("h")
        shelf.do("h", THREE)
        shelf.snap("h", "s")
        shelf.rebound("h", 4)
        self.assertEqual(shelf.entries()[0], ("h", "house", 4))
        self.assertEqual(room_of(shelf.view("h")), 4)
        self.refused(shelf, "NoRoom", "rebound", "h", 3)
        self.refused(shelf, "NoHouse", "rebound", "x", 3)
        self.refused(shelf, "NoHouse", "rebound", "s", 3)
        self.refused(shelf, "NoRoom", "do", "h", [("folder", ("b",))])
        shelf.rebound("h", 5)
        shelf.do("h", [("folder", ("b",))])

    def test_view_and_thing(self):
        shelf = shelf_of("h")
        shelf.do("h", [("folder", ("b",))] + [("file", ("b", "a"))])
        shelf.snap("h", "s")
        for name in ("h", "s"):
            self.assertEqual(shelf.view(name), folder(b=folder(a=file())))
            self.assertEqual(shelf.thing(name, ()), shelf.view(name))
            self.assertEqual(shelf.thing(name, ("b",)), folder(a=file()))
            self.assertEqual(shelf.thing(name, ("b", "a")), file())
            self.assertIsNone(shelf.thing(name, ("a",)))
            self.assertIsNone(shelf.thing(name, ("b", "a", "c")))
        self.refused(shelf, "NoEntry", "view", "x")
        self.refused(shelf, "NoEntry", "thing", "x", ())
        self.refused(shelf, "NoEntry", "thing", "x", ("b",))


class PromiseTest(ShelfTest):

    def test_a_snapshot_reads_as_at_its_taking(self):
        shelf = shelf_of("h")
        shelf.do("h", THREE)
        shelf.snap("h", "s")
        view = shelf.view("s")
        shelf.do("h", [("put", ("a",), 0, (7,))])
        shelf.snap("h", "t")
        shelf.clone("s", "c", 10)
        shelf.do("c", [("out", ("a",))])
        shelf.back("h", "s")
        shelf.drop("h")
        self.assertEqual(shelf.view("s"), view)
        self.assertEqual(shelf.view("t"), folder(a=file((7,), (2,))))
        shelf.house("h", 10)
        self.assertEqual(shelf.view("s"), view)
        shelf.drop("s")
        self.refused(shelf, "NoEntry", "view", "s")

    def test_a_clone_changes_nothing_of_its_elder(self):
        shelf = shelf_of("h")
        shelf.do("h", THREE)
        shelf.snap("h", "s")
        shelf.clone("s", "c", 10)
        shelf.do("c", [("trim", ("a",), 0), ("folder", ("b",))])
        self.assertEqual(shelf.view("h"), folder(a=file((1,), (2,))))
        self.assertEqual(shelf.view("s"), folder(a=file((1,), (2,))))
        self.assertEqual(shelf.view("c"), folder(a=file(), b=EMPTY))

    def test_two_shelves_are_apart(self):
        first, second = shelf_of("h"), shelf_of("h")
        first.do("h", THREE)
        first.house("g", 5)
        self.assertEqual(told(second), [(("h", "house", 10), EMPTY)])

    def test_what_is_told_is_the_askers_own(self):
        shelf = shelf_of("h")
        entries = shelf.entries()
        entries.append("x")
        entries[0] = None
        self.assertEqual(shelf.entries(), [("h", "house", 10)])

    def test_what_is_handed_in_stays_and_may_be_changed(self):
        shelf = shelf_of("h")
        deeds = list(THREE)
        shelf.do("h", deeds)
        self.assertEqual(deeds, THREE)
        deeds.clear()
        self.assertEqual(shelf.view("h"), folder(a=file((1,), (2,))))


class Model:
    """Entries by their names, with what each deed refuses written down once more."""

    def __init__(self):
        self.houses, self.snaps, self.order = {}, {}, []

    def why_new(self, name):
        if name in self.order:
            return "Taken"
        return "TooMany" if len(self.order) == 12 else None

    def why_not(self, deed, args):
        first = args[0]
        if deed in ("do", "snap", "back", "rebound") and first not in self.houses:
            return "NoHouse"
        if deed == "drop":
            return None if first in self.order else "NoEntry"
        snap = {"back": args[-1], "clone": first}.get(deed)
        if snap is not None and snap not in self.snaps:
            return "NoSnap"
        new = {"house": first, "snap": args[-1], "clone": args[1] if deed == "clone" else None}.get(deed)
        if new is not None and self.why_new(new):
            return self.why_new(new)
        if deed == "do":
            why = refusal(all_done, self.houses[first][1], args[1])
            return why or self.why_room(all_done(self.houses[first][1], args[1]), self.houses[first][0])
        if deed == "back":
            return self.why_room(self.snaps[snap][1], self.houses[first][0])
        if deed == "clone":
            return self.why_room(self.snaps[snap][1], args[2])
        return self.why_room(self.houses[first][1], args[1]) if deed == "rebound" else None

    def why_room(self, view, bound):
        return "NoRoom" if room_of(view) > bound else None

    def change(self, deed, args):
        first = args[0]
        if deed == "house":
            self.houses[first] = (args[1], EMPTY)
        elif deed == "do":
            self.houses[first] = (self.houses[first][0], all_done(self.houses[first][1], args[1]))
        elif deed == "snap":
            self.snaps[args[1]] = (first, self.houses[first][1])
        elif deed == "back":
            self.houses[first] = (self.houses[first][0], self.snaps[args[1]][1])
        elif deed == "clone":
            self.houses[args[1]] = (args[2], self.snaps[first][1])
        elif deed == "rebound":
            self.houses[first] = (args[1], self.houses[first][1])
        else:
            self.houses.pop(first, None)
            self.snaps.pop(first, None)
            self.order.remove(first)
        if deed in ("house", "snap", "clone"):
            self.order.append(args[0] if deed == "house" else args[1])

    def told(self):
        rows = []
        for name in self.order:
            kind = "house" if name in self.houses else "snap"
            mark, view = (self.houses if kind == "house" else self.snaps)[name]
            rows.append(((name, kind, mark), view))
        return rows


def some_deed(source):
    name, other = source.choice("abcdefghijklmnop"), source.choice("abcdefghijklmnop")
    bound = source.randint(1, 8)
    path = (source.choice("xyz"),)
    deeds = source.choice((
        [("file", path), ("put", path, 0, (source.randrange(256),))], [("put", path, 0, (source.randrange(256),))],
        [("out", path)], [("folder", path), ("file", path + ("x",))], [], [("out", ())],
    ))
    return source.choice((
        ("house", (name, bound)), ("do", (name, deeds)), ("do", (name, deeds)), ("snap", (name, other)), ("back", (name, other)),
        ("clone", (name, other, bound)), ("drop", (name,)), ("rebound", (name, bound)),
    ))


class ModelTest(unittest.TestCase):

    def test_beside_the_model(self):
        seen = set()
        for seed in range(6):
            source = random.Random(seed)
            shelf, model = PlainShelf(), Model()
            for turn in range(2500):
                deed, args = some_deed(source)
                if deed == "drop" and source.random() < 0.7:
                    continue
                why = model.why_not(deed, args)
                seen.add((deed, why))
                self.assertEqual(refusal(getattr(shelf, deed), *args), why, (deed, args))
                if why is None:
                    model.change(deed, args)
                self.assertEqual(told(shelf), model.told())
                self.assertEqual(
                    [shelf.thing(name, ("x",)) for name in model.order], [thing_at(row[1], ("x",)) for row in model.told()])
        for pair in (("house", "TooMany"), ("snap", "TooMany"), ("clone", "TooMany"), ("clone", "NoRoom"), ("back", "NoRoom"),
                     ("rebound", "NoRoom"), ("do", "NoRoom"), ("back", None), ("clone", None), ("drop", None)):
            self.assertIn(pair, seen)


if __name__ == "__main__":
    unittest.main()
