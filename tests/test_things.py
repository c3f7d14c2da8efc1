"""Leaves, things and views, and what is in them (6, 7)."""

import unittest

from helper import EMPTY, WHATEVER, chain, file, folder
from snapshelf.things import depth_of, is_leaf, is_thing, is_view, paths_of, room_of, thing_at

VIEW = folder(b=file((1, 2), ()), z=folder(), aa=folder(c=folder(d=file((9,))), ab=file()), ba=file())
MANY = tuple("abcdefghi")
SIX = ("a", "b", "c", "d", "e", "f")


class IsLeafTest(unittest.TestCase):

    def test_leaves(self):
        for one in ((), (0,), (255,), (1, 2, 3), (255,) * 8, (0,) * 8, (7, 7)):
            self.assertIs(is_leaf(one), True)

    def test_no_leaves(self):
        odd = (
            (256,), (-1,), (0,) * 9, (True,), (False,), (1, True), (1, None), ("1",), ((1,),), ([1],), [1], [], "", "1",
            0, 1, {}, {1: 1}, (1, 256), (0, -1), (10 ** 30,),
        )
        for one in odd + WHATEVER:
            self.assertIs(is_leaf(one), False, one)


class IsThingTest(unittest.TestCase):

    def check(self, one, thing, view):
        self.assertIs(is_thing(one), thing, one)
        self.assertIs(is_view(one), view, one)

    def test_files_are_things_and_no_views(self):
        for one in (file(), file(()), file((1, 2), (255,) * 8), file(*[(k,) for k in range(64)])):
            self.check(one, True, False)

    def test_folders_are_things_and_views(self):
        eight = ("folder", tuple((name, file()) for name in MANY[:8]))
        for one in (EMPTY, VIEW, eight, folder(a=eight, b=eight), folder(abcdefgh=file())):
            self.check(one, True, True)

    def test_one_beyond_each_bound(self):
        self.check(file(*[()] * 65), False, False)
        self.check(file((0,) * 9), False, False)
        self.check(file((256,)), False, False)
        self.check(file((-1,)), False, False)
        self.check(("folder", tuple((name, file()) for name in MANY)), False, False)
        self.check(folder(abcdefghi=file()), False, False)
        self.check(folder(a=file(*[()] * 65)), False, False)
        self.check(folder(a=("folder", tuple((name, EMPTY) for name in MANY))), False, False)

    def test_six_names_deep_and_seven(self):
        for last in (file(), file((1,)), EMPTY):
            self.check(chain(SIX, last), True, True)
            self.check(chain(SIX + ("g",), last), False, False)
            self.check(folder(a=file(), b=chain(SIX[1:], last)), True, True)
            self.check(folder(a=file(), b=chain(SIX, last)), False, False)
        self.check(chain(("a",) * 14, file()), False, False)

    def test_names_rise_by_their_codes(self):
        self.check(folder(a=file(), b=file()), True, True)
        self.check(folder(b=file(), a=file()), False, False)
        self.check(folder(b=file(), aa=file()), True, True)
        self.check(folder(z=file(), aa=file()), True, True)
        self.check(folder(aa=file(), b=file()), False, False)
        self.check(folder(a=file(), aa=file(), b=file()), False, False)
        self.check(("folder", (("a", file()), ("a", file()))), False, False)
        self.check(("folder", (("a", file()), ("a", EMPTY))), False, False)
        self.check(folder(c=folder(b=file(), a=file())), False, False)

    def test_lists_in_the_place_of_rows(self):
        for one in (
            ["file", ()], ("file", []), ("file", ([],)), ("file", ([1],)), ["folder", ()], ("folder", []),
            ("folder", [("a", file())]), ("folder", (["a", file()],)), ("folder", (("a", ["file", ()]),)),
            ("folder", (("a", ("file", [])),)), ("folder", ((["a"], file()),)), ("folder", {"a": file()}),
        ):
            self.check(one, False, False)

    def test_true_in_the_place_of_a_number(self):
        self.check(file((True,)), False, False)
        self.check(folder(a=file((0, False))), False, False)
        self.check(("folder", ((True, file()),)), False, False)

    def test_other_words(self):
        for word in ("File", "FOLDER", "files", "", "leaf", "folder ", None, 1, True, (), [], {}):
            self.check((word, ()), False, False)

    def test_other_shapes(self):
        for one in (
            (), ("file",), ("folder",), ("file", (), ()), ("folder", (), ()), "file", "folder", ("folder", ("a", file())),
            ("folder", (("a",),)), ("folder", (("a", file(), file()),)), ("folder", (("A", file()),)),
            ("folder", (("", file()),)), ("folder", ((1, file()),)), ("folder", (("a", None),)), ("folder", (("a", ()),)),
            ("folder", (None,)), ("folder", ((),)), ("file", None), ("file", ""), ("folder", ""), ("file", "ab"),
            ("folder", (("a", file()), None)), ((("a", file()),), "folder"), ("file", (None,)), ("file", (1,)),
            ("folder", ("ab",)), ("folder", "ab"),
        ):
            self.check(one, False, False)

    def test_whatever_is_handed_in(self):
        for one in WHATEVER:
            self.check(one, False, False)
            self.check(("folder", (("a", one),)), False, False)
            self.check(("folder", ((one, EMPTY),)), False, False)
            self.check(("folder", (one,)), False, False)
            self.check(("file", (one,)), False, False)


class InViewsTest(unittest.TestCase):

    def test_thing_at(self):
        self.assertEqual(thing_at(VIEW, ()), VIEW)
        self.assertEqual(thing_at(VIEW, ("b",)), file((1, 2), ()))
        self.assertEqual(thing_at(VIEW, ("z",)), EMPTY)
        self.assertEqual(thing_at(VIEW, ("aa",)), folder(c=folder(d=file((9,))), ab=file()))
        self.assertEqual(thing_at(VIEW, ("aa", "c", "d")), file((9,)))
        self.assertEqual(thing_at(EMPTY, ()), EMPTY)

    def test_nothing_at(self):
        for path in (("a",), ("z", "a"), ("aa", "d"), ("x", "y"), ("aa", "c", "d", "e"), ("b", "b"), ("b", "b", "b"),
                     ("ba", "x", "y", "z", "a", "b"), ("a",) * 7):
            self.assertIsNone(thing_at(VIEW, path))
        self.assertIsNone(thing_at(EMPTY, ("a",)))

    def test_thing_at_six_names(self):
        self.assertEqual(thing_at(chain(SIX, file((5,))), SIX), file((5,)))
        self.assertEqual(thing_at(chain(SIX, EMPTY), SIX), EMPTY)
        self.assertIsNone(thing_at(chain(SIX, EMPTY), SIX + ("g",)))

    def test_paths_of(self):
        told = paths_of(VIEW)
        self.assertEqual(told, [
            ("b",), ("z",), ("aa",), ("aa", "c"), ("aa", "c", "d"), ("aa", "ab"), ("ba",),
        ])
        self.assertIsInstance(told, list)
        self.assertEqual(paths_of(EMPTY), [])
        self.assertEqual(paths_of(chain(SIX, file())), [SIX[:many] for many in range(1, 7)])

    def test_paths_are_the_askers_own(self):
        told = paths_of(VIEW)
        told.clear()
        self.assertEqual(len(paths_of(VIEW)), 7)

    def test_room_of(self):
        self.assertEqual(room_of(EMPTY), 1)
        self.assertEqual(room_of(file()), 1)
        self.assertEqual(room_of(file((1, 2, 3), ())), 3)
        self.assertEqual(room_of(file(*[()] * 64)), 65)
        self.assertEqual(room_of(folder(a=file(()), b=EMPTY)), 4)
        self.assertEqual(room_of(VIEW), 1 + 3 + 1 + 5 + 1)

    def test_depth_of(self):
        self.assertEqual(depth_of(EMPTY), 0)
        self.assertEqual(depth_of(file((1,), (2,))), 0)
        self.assertEqual(depth_of(folder(a=file())), 1)
        self.assertEqual(depth_of(folder(a=EMPTY)), 1)
        self.assertEqual(depth_of(VIEW), 3)
        self.assertEqual(depth_of(chain(SIX, file((1,)))), 6)
        self.assertEqual(depth_of(folder(a=file(), b=chain(SIX[:3], EMPTY), c=EMPTY)), 4)


if __name__ == "__main__":
    unittest.main()
