"""Deeds on a view (8, 2)."""

import unittest

from helper import EMPTY, WHATEVER, chain, file, folder, refusal
from snapshelf.deeds import all_done, done, is_deed
from snapshelf.things import is_view, paths_of, thing_at

SIX = ("a", "b", "c", "d", "e", "f")
EIGHT = ("folder", tuple((name, file()) for name in "abcdefgh"))
VIEW = folder(a=file((1,), (2,)), b=folder(c=file((3,))), d=EMPTY)

DEEDS = (
    ("folder", ("a",)), ("file", SIX), ("put", ("a",), 0, ()), ("put", ("a", "b"), 64, (255,) * 8),
    ("trim", ("a",), 0), ("trim", ("a",), 64), ("out", ("abcdefgh",)), ("move", ("a",), ("b",)), ("copy", SIX, SIX),
    ("move", ("a",), ("a",)),
)
NO_DEEDS = (
    (), ("folder",), ("file",), ("put",), ("folder", ()), ("file", ()), ("out", ()), ("put", (), 0, ()), ("trim", (), 0),
    ("move", (), ("a",)), ("move", ("a",), ()), ("copy", (), ("a",)), ("copy", ("a",), ()),
    ("folder", SIX + ("g",)), ("move", ("a",), SIX + ("g",)), ("copy", SIX + ("g",), ("a",)),
    ("folder", ["a"]), ("folder", "a"), ("file", None), ("out", ("A",)), ("out", ("abcdefghi",)), ("out", ("",)),
    ("out", ("a", 1)), ("out", (None,)), ("move", ("a",), ["b"]), ("move", ("a",), "b"), ("copy", ("a",), None),
    ("make", ("a",), ("b",)), (None, ("a",), ("b",)), (["move"], ("a",), ("b",)), ("set", ("a",), 0, ()), ("cut", ("a",), 0),
    ["folder", ("a",)], ["out", ("a",)], ("Folder", ("a",)), ("make", ("a",)), ("", ("a",)), (None, ("a",)), (1, ("a",)),
    (True, ("a",)), ([], ("a",)), ({}, ("a",)), (("out",), ("a",)), (["out"], ("a",)),
    ("folder", ("a",), ("b",)), ("file", ("a",), 0), ("out", ("a",), ("a",)), ("out", ("a",), ()), ("out", ("a",), None),
    ("put", ("a",)), ("put", ("a",), 0), ("put", ("a",), (), 0), ("put", ("a",), 0, (), ()), ("put", ("a",), -1, ()),
    ("put", ("a",), 65, ()), ("put", ("a",), True, ()), ("put", ("a",), False, ()), ("put", ("a",), None, ()),
    ("put", ("a",), "0", ()), ("put", ("a",), 0, []), ("put", ("a",), 0, [1]), ("put", ("a",), 0, (256,)),
    ("put", ("a",), 0, (-1,)), ("put", ("a",), 0, (True,)), ("put", ("a",), 0, (0,) * 9), ("put", ("a",), 0, None),
    ("put", ("a",), 0, 1), ("put", ("a",), 0, 1, 2), ("trim", ("a",)), ("trim", ("a",), -1), ("trim", ("a",), 65),
    ("trim", ("a",), True), ("trim", ("a",), "1"), ("trim", ("a",), None), ("trim", ("a",), 1, 1), ("trim", ("a",), (1,)),
    ("move", ("a",)), ("move", ("a",), ("b",), ("c",)), ("copy", ("a",)), ("copy", ("a",), ("b",), ("c",)), "out a",
)


class IsDeedTest(unittest.TestCase):

    def test_deeds(self):
        for one in DEEDS:
            self.assertIs(is_deed(one), True, one)

    def test_no_deeds(self):
        for one in NO_DEEDS + WHATEVER:
            self.assertIs(is_deed(one), False, one)

    def test_no_deed_is_refused(self):
        for one in NO_DEEDS + WHATEVER:
            self.assertEqual(refusal(done, VIEW, one), "NoDeed", one)
            self.assertEqual(refusal(all_done, VIEW, [one]), "NoDeed", one)


class DeedTest(unittest.TestCase):

    def gives(self, view, deed, behind):
        self.assertEqual(done(view, deed), behind)
        self.assertIs(is_view(done(view, deed)), True)

    def refused(self, view, deed, why):
        self.assertEqual(refusal(done, view, deed), why, deed)


class MakeTest(DeedTest):

    def test_made(self):
        self.gives(EMPTY, ("folder", ("a",)), folder(a=EMPTY))
        self.gives(EMPTY, ("file", ("a",)), folder(a=file()))
        self.gives(VIEW, ("folder", ("d", "x")), folder(a=file((1,), (2,)), b=folder(c=file((3,))), d=folder(x=EMPTY)))
        self.gives(VIEW, ("file", ("b", "a")), folder(a=file((1,), (2,)), b=folder(a=file(), c=file((3,))), d=EMPTY))

    def test_put_in_the_order_of_codes(self):
        self.gives(folder(a=EMPTY, aa=EMPTY), ("file", ("z",)), folder(a=EMPTY, z=file(), aa=EMPTY))
        self.gives(folder(b=EMPTY, z=EMPTY), ("folder", ("aa",)), folder(b=EMPTY, z=EMPTY, aa=EMPTY))

    def test_six_names_deep(self):
        for kind in ("folder", "file"):
            self.gives(chain(SIX[:5], EMPTY), (kind, SIX), chain(SIX, (kind, ())))

    def test_eight_things(self):
        seven = ("folder", EIGHT[1][:7])
        self.gives(seven, ("file", ("h",)), EIGHT)
        self.refused(EIGHT, ("file", ("i",)), "TooMany")
        self.refused(EIGHT, ("folder", ("i",)), "TooMany")
        self.refused(folder(x=EIGHT), ("folder", ("x", "i")), "TooMany")

    def test_refusals_in_their_order(self):
        for kind in ("folder", "file"):
            self.refused(VIEW, (kind, ("x", "y")), "NoThing")
            self.refused(VIEW, (kind, ("a", "y")), "NoThing")
            self.refused(VIEW, (kind, ("b", "c", "d", "e")), "NoThing")
            self.refused(VIEW, (kind, ("a",)), "Taken")
            self.refused(VIEW, (kind, ("b",)), "Taken")
            self.refused(VIEW, (kind, ("b", "c")), "Taken")
            self.refused(EIGHT, (kind, ("a",)), "Taken")
            self.refused(EIGHT, (kind, ("a", "a")), "NoThing")


class LeavesTest(DeedTest):

    def test_put(self):
        self.gives(folder(a=file()), ("put", ("a",), 0, (7, 8)), folder(a=file((7, 8))))
        self.gives(folder(a=file((1,), (2,))), ("put", ("a",), 0, ()), folder(a=file((), (2,))))
        self.gives(folder(a=file((1,), (2,))), ("put", ("a",), 1, (9,)), folder(a=file((1,), (9,))))
        self.gives(folder(a=file((1,), (2,))), ("put", ("a",), 2, (9,)), folder(a=file((1,), (2,), (9,))))
        self.gives(folder(b=folder(c=file((3,)))), ("put", ("b", "c"), 0, (4,)), folder(b=folder(c=file((4,)))))

    def test_put_at_the_bound(self):
        leaves = [(k,) for k in range(64)]
        self.gives(folder(a=file(*leaves[:63])), ("put", ("a",), 63, (63,)), folder(a=file(*leaves)))
        self.gives(folder(a=file(*leaves)), ("put", ("a",), 63, (5,)), folder(a=file(*leaves[:63], (5,))))
        self.refused(folder(a=file(*leaves)), ("put", ("a",), 64, (5,)), "NoLeaf")
        self.refused(folder(a=file(*leaves[:63])), ("put", ("a",), 64, (5,)), "NoLeaf")

    def test_put_refused(self):
        self.refused(VIEW, ("put", ("x",), 0, ()), "NoThing")
        self.refused(VIEW, ("put", ("b",), 0, ()), "NoThing")
        self.refused(VIEW, ("put", ("a", "x"), 0, ()), "NoThing")
        self.refused(VIEW, ("put", ("x", "y"), 0, ()), "NoThing")
        self.refused(VIEW, ("put", ("d",), 64, ()), "NoThing")
        self.refused(VIEW, ("put", ("a",), 3, ()), "NoLeaf")
        self.refused(VIEW, ("put", ("a",), 64, ()), "NoLeaf")
        self.refused(folder(a=file()), ("put", ("a",), 1, ()), "NoLeaf")

    def test_trim(self):
        view = folder(a=file((1,), (2,), (3,)))
        for many in range(4):
            self.gives(view, ("trim", ("a",), many), folder(a=file(*[(1,), (2,), (3,)][:many])))
        full = folder(a=file(*[()] * 64))
        self.gives(full, ("trim", ("a",), 64), full)

    def test_trim_refused(self):
        self.refused(VIEW, ("trim", ("x",), 0), "NoThing")
        self.refused(VIEW, ("trim", ("b",), 0), "NoThing")
        self.refused(VIEW, ("trim", ("a", "x"), 0), "NoThing")
        self.refused(VIEW, ("trim", ("d",), 64), "NoThing")
        self.refused(VIEW, ("trim", ("a",), 3), "NoLeaf")
        self.refused(VIEW, ("trim", ("a",), 64), "NoLeaf")


class OutTest(DeedTest):

    def test_out(self):
        self.gives(VIEW, ("out", ("a",)), folder(b=folder(c=file((3,))), d=EMPTY))
        self.gives(VIEW, ("out", ("b",)), folder(a=file((1,), (2,)), d=EMPTY))
        self.gives(VIEW, ("out", ("b", "c")), folder(a=file((1,), (2,)), b=EMPTY, d=EMPTY))
        self.gives(chain(SIX, file()), ("out", SIX), chain(SIX[:5], EMPTY))

    def test_out_refused(self):
        for path in (("x",), ("a", "x"), ("b", "x"), ("x", "y"), ("b", "c", "d")):
            self.refused(VIEW, ("out", path), "NoThing")


class MoveTest(DeedTest):

    def test_moved(self):
        self.gives(VIEW, ("move", ("a",), ("x",)), folder(b=folder(c=file((3,))), d=EMPTY, x=file((1,), (2,))))
        self.gives(VIEW, ("move", ("b",), ("d", "b")), folder(a=file((1,), (2,)), d=folder(b=folder(c=file((3,))))))
        self.gives(VIEW, ("move", ("b", "c"), ("c",)), folder(a=file((1,), (2,)), b=EMPTY, c=file((3,)), d=EMPTY))
        self.gives(VIEW, ("move", ("b", "c"), ("b", "x")), folder(a=file((1,), (2,)), b=folder(x=file((3,))), d=EMPTY))

    def test_moved_to_a_name_that_begins_alike(self):
        self.gives(folder(a=EMPTY), ("move", ("a",), ("aa",)), folder(aa=EMPTY))
        self.gives(folder(a=EMPTY, aa=EMPTY), ("move", ("a",), ("aa", "a")), folder(aa=folder(a=EMPTY)))

    def test_within_one_full_folder(self):
        rest = EIGHT[1][1:]
        self.gives(EIGHT, ("move", ("a",), ("z",)), ("folder", rest + (("z", file()),)))
        self.gives(folder(x=EIGHT), ("move", ("x", "a"), ("x", "z")), folder(x=("folder", rest + (("z", file()),))))

    def test_within_one_folder_beyond_the_bound(self):
        nine = ("folder", EIGHT[1] + (("i", file()),))
        self.refused(nine, ("move", ("a",), ("z",)), "TooMany")

    def test_between_full_folders(self):
        view = ("folder", (("a", file()), ("b", EIGHT)))
        self.refused(view, ("move", ("a",), ("b", "z")), "TooMany")
        full = ("folder", EIGHT[1][:7] + (("x", folder(a=file())),))
        self.refused(full, ("move", ("x", "a"), ("z",)), "TooMany")

    def test_of_two_refusals_nothing_there_comes_first(self):
        self.refused(VIEW, ("move", ("x",), ("y",)), "NoThing")
        self.refused(VIEW, ("move", ("x",), ("x",)), "NoThing")
        self.refused(VIEW, ("move", ("x",), ("a",)), "NoThing")
        self.refused(VIEW, ("move", ("x",), ("x", "y")), "NoThing")
        self.refused(VIEW, ("move", ("a",), ("x", "y")), "NoThing")
        self.refused(VIEW, ("move", ("a",), ("a", "y")), "NoThing")
        self.refused(VIEW, ("move", ("b",), ("a", "y")), "NoThing")
        self.refused(VIEW, ("move", ("b",), ("b", "x", "y")), "NoThing")
        self.refused(VIEW, ("move", ("b",), ("b", "c", "y")), "NoThing")

    def test_within(self):
        self.refused(VIEW, ("move", ("a",), ("a",)), "Within")
        self.refused(VIEW, ("move", ("b",), ("b",)), "Within")
        self.refused(VIEW, ("move", ("b",), ("b", "x")), "Within")
        self.refused(VIEW, ("move", ("b",), ("b", "c")), "Within")
        self.refused(folder(b=folder(c=EMPTY)), ("move", ("b",), ("b", "c", "x")), "Within")
        self.refused(folder(x=EIGHT), ("move", ("x",), ("x", "z")), "Within")
        self.refused(chain(SIX, file()), ("move", ("a",), ("a", "x")), "Within")

    def test_taken(self):
        self.refused(VIEW, ("move", ("a",), ("b",)), "Taken")
        self.refused(VIEW, ("move", ("a",), ("b", "c")), "Taken")
        self.refused(VIEW, ("move", ("b", "c"), ("b",)), "Taken")
        self.refused(VIEW, ("move", ("b", "c"), ("a",)), "Taken")
        self.refused(("folder", (("a", file()), ("b", EIGHT))), ("move", ("a",), ("b", "a")), "Taken")
        deep = folder(a=chain(SIX[1:], file()), x=folder(y=EMPTY))
        self.refused(deep, ("move", ("a",), ("x", "y")), "Taken")

    def test_too_many_ahead_of_too_deep(self):
        self.refused(folder(a=chain(SIX[1:], file()), x=EIGHT), ("move", ("a",), ("x", "z")), "TooMany")

    def test_too_deep(self):
        for last in (file((1,)), EMPTY):
            view = folder(a=chain(("p", "q", "r"), last), b=chain(("c", "d"), EMPTY))
            self.gives(view, ("move", ("a",), ("b", "c", "x")),
                       folder(b=folder(c=folder(d=EMPTY, x=chain(("p", "q", "r"), last)))))
            self.refused(view, ("move", ("a",), ("b", "c", "d", "x")), "TooDeep")
        view = folder(a=file(*[()] * 64), b=chain(SIX[:4], EMPTY))
        self.gives(view, ("move", ("a",), ("b", "a", "b", "c", "d", "x")),
                   folder(b=chain(SIX[:4], folder(x=file(*[()] * 64)))))


class CopyTest(DeedTest):

    def test_copied(self):
        self.gives(folder(a=file((1,))), ("copy", ("a",), ("b",)), folder(a=file((1,)), b=file((1,))))
        self.gives(folder(a=folder(b=file((1,))), d=EMPTY), ("copy", ("a",), ("d", "x")),
                   folder(a=folder(b=file((1,))), d=folder(x=folder(b=file((1,))))))
        self.gives(folder(a=folder(b=file())), ("copy", ("a", "b"), ("b",)), folder(a=folder(b=file()), b=file()))

    def test_copied_into_itself(self):
        self.gives(folder(a=folder(b=file())), ("copy", ("a",), ("a", "c")),
                   folder(a=folder(b=file(), c=folder(b=file()))))
        self.gives(folder(a=folder(b=EMPTY)), ("copy", ("a",), ("a", "b", "c")), folder(a=folder(b=folder(c=folder(b=EMPTY)))))

    def test_refusals_in_their_order(self):
        self.refused(VIEW, ("copy", ("x",), ("y",)), "NoThing")
        self.refused(VIEW, ("copy", ("x",), ("a",)), "NoThing")
        self.refused(VIEW, ("copy", ("a",), ("x", "y")), "NoThing")
        self.refused(VIEW, ("copy", ("a",), ("a", "y")), "NoThing")
        self.refused(VIEW, ("copy", ("a",), ("a",)), "Taken")
        self.refused(VIEW, ("copy", ("b",), ("b", "c")), "Taken")
        self.refused(VIEW, ("copy", ("a",), ("d",)), "Taken")
        self.refused(EIGHT, ("copy", ("a",), ("b",)), "Taken")
        self.refused(EIGHT, ("copy", ("a",), ("z",)), "TooMany")
        self.refused(folder(x=EIGHT), ("copy", ("x",), ("x", "z")), "TooMany")
        self.refused(folder(a=chain(SIX[1:], file()), x=EIGHT), ("copy", ("a",), ("x", "z")), "TooMany")
        self.refused(folder(a=chain(SIX[1:], file()), x=folder(y=EMPTY)), ("copy", ("a",), ("x", "y")), "Taken")

    def test_too_deep(self):
        view = folder(a=chain(("p", "q", "r"), EMPTY), b=chain(("c", "d"), EMPTY))
        self.gives(view, ("copy", ("a",), ("b", "c", "x")),
                   folder(a=chain(("p", "q", "r"), EMPTY), b=folder(c=folder(d=EMPTY, x=chain(("p", "q", "r"), EMPTY)))))
        self.refused(view, ("copy", ("a",), ("b", "c", "d", "x")), "TooDeep")
        self.refused(chain(SIX, file()), ("copy", ("a",), ("b", )), None)
        self.refused(chain(SIX, file()), ("copy", ("a",), ("a", "x")), "TooDeep")


class AllDoneTest(unittest.TestCase):

    def test_one_behind_another(self):
        deeds = [("folder", ("a",)), ("file", ("a", "b")), ("put", ("a", "b"), 0, (1,)), ("copy", ("a",), ("c",)),
                 ("put", ("a", "b"), 0, (2,)), ("move", ("a", "b"), ("b",)), ("out", ("a",))]
        self.assertEqual(all_done(EMPTY, deeds), folder(b=file((2,)), c=folder(b=file((1,)))))

    def test_of_none(self):
        self.assertEqual(all_done(VIEW, []), VIEW)

    def test_the_first_refusal_refuses_all(self):
        deeds = [("out", ("a",)), ("out", ("a",)), ("file", ("b",)), ("trim", ("b",), 5)]
        self.assertEqual(refusal(all_done, VIEW, deeds), "NoThing")
        self.assertEqual(refusal(all_done, VIEW, [("file", ("b",)), ("out", ("x",))]), "Taken")
        self.assertEqual(refusal(all_done, VIEW, [("file", ("x",)), ("trim", ("x",), 1), ("out", ("y",))]), "NoLeaf")

    def test_no_deed_comes_ahead_of_all(self):
        self.assertEqual(refusal(all_done, VIEW, [("out", ("x",)), ("out", ())]), "NoDeed")
        self.assertEqual(refusal(all_done, VIEW, [("file", ("a",)), None]), "NoDeed")
        self.assertEqual(refusal(all_done, VIEW, [("out", ("a",)), ["out", ("b",)]]), "NoDeed")

    def test_what_was_handed_in_stays(self):
        deeds = [("out", ("a",)), ("folder", ("a",))]
        view = folder(a=file((1,)))
        all_done(view, deeds)
        self.assertEqual(deeds, [("out", ("a",)), ("folder", ("a",))])
        self.assertEqual(view, folder(a=file((1,))))

    def test_a_thousand_deeds(self):
        deeds = [("file", ("a",))] + [("put", ("a",), k % 64, (k % 256,)) for k in range(999)]
        last = [(k % 256,) for k in range(999 - 64, 999)]
        self.assertEqual(sorted(thing_at(all_done(EMPTY, deeds), ("a",))[1]), sorted(last))
        self.assertEqual(paths_of(all_done(EMPTY, deeds)), [("a",)])


if __name__ == "__main__":
    unittest.main()
