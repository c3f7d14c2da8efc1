"""Deeds done by a stock on the view at a place (17)."""

import random
import unittest

from helper import EMPTY, WHATEVER, chain, dense, file, folder, laid, leaves, put_block, refusal, some_deed
from snapshelf.blocks import links
from snapshelf.changing import changed
from snapshelf.deeds import done
from snapshelf.names import code_of
from snapshelf.stock import Stock
from snapshelf.things import paths_of, room_of
from snapshelf.trees import come_to, file_levels, is_good, thing_of

SIX = ("a", "b", "c", "d", "e", "f")
VIEW = folder(a=file((1,), (2,)), b=folder(c=file((3,))), d=EMPTY)
EIGHT = folder(a=file(), b=file(), c=file(), d=file(), e=file(), f=file(), g=file(), h=file())


def place_at(blocks, place, path):
    """The place of the thing at the path."""
    for name in path:
        content = blocks[place]
        place = dict(zip(content[1::2], content[2::2]))[code_of(name)]
    return place


class ChangingTest(unittest.TestCase):

    def stock_of(self, view, once, places=400):
        blocks = {}
        place = laid(blocks, view)
        return Stock(blocks, places, [], once), blocks, place

    def change(self, view, deed, once=True):
        """Do the deed; the blocks ahead, the place ahead, all blocks behind, the place behind."""
        stock, blocks, place = self.stock_of(view, once)
        before = dict(blocks)
        behind = changed(stock, place, deed)
        self.assertEqual(blocks, before)
        whole = {**blocks, **stock.new()}
        self.assertEqual(thing_of(whole, behind), done(view, deed))
        self.assertIs(is_good(whole, behind, "folder"), True)
        self.assertLessEqual(len(stock.new()), 16)
        # Whatever came new is in the view: nothing was made on the way only.
        self.assertLessEqual(set(stock.new()), set(come_to(whole, [behind])))
        return blocks, place, whole, behind

    def new_of(self, view, deed, once):
        """The contents that come new by the deed."""
        blocks, place, whole, behind = self.change(view, deed, once)
        return [whole[each] for each in whole if each not in blocks]


class SevenDeedsTest(ChangingTest):

    def test_each_deed(self):
        for deed in (
                ("folder", ("x",)), ("folder", ("b", "x")), ("folder", ("d", "x")), ("file", ("x",)), ("file", ("b", "x")),
                ("put", ("a",), 0, (9,)), ("put", ("a",), 1, ()), ("put", ("a",), 2, (9,)), ("put", ("b", "c"), 1, (3,)),
                ("trim", ("a",), 0), ("trim", ("a",), 1), ("trim", ("a",), 2), ("trim", ("b", "c"), 0),
                ("out", ("a",)), ("out", ("b",)), ("out", ("b", "c")), ("out", ("d",)),
                ("move", ("a",), ("x",)), ("move", ("a",), ("d", "x")), ("move", ("b", "c"), ("c",)), ("move", ("b",), ("d", "a")),
                ("move", ("b", "c"), ("b", "a")), ("move", ("a",), ("aa",)), ("move", ("a",), ("b", "a")),
                ("copy", ("a",), ("x",)), ("copy", ("b",), ("d", "x")), ("copy", ("b",), ("b", "x")), ("copy", ("b", "c"), ("c",))):
            for once in (True, False):
                self.change(VIEW, deed, once)

    def test_nothing_new_where_it_is_refused(self):
        deep = folder(a=chain(("p", "q", "r"), EMPTY), b=chain(("c", "d"), EMPTY))
        full = file(*leaves(64))
        for view, deed, why in (
                (VIEW, ("folder", ("x", "y")), "NoThing"), (VIEW, ("file", ("a", "y")), "NoThing"),
                (VIEW, ("folder", ("a",)), "Taken"), (VIEW, ("file", ("b", "c")), "Taken"), (EIGHT, ("file", ("b",)), "Taken"),
                (EIGHT, ("folder", ("x",)), "TooMany"), (folder(a=EIGHT), ("file", ("a", "x")), "TooMany"),
                (VIEW, ("put", ("b",), 0, ()), "NoThing"), (VIEW, ("put", ("x",), 0, ()), "NoThing"),
                (VIEW, ("put", ("a", "x"), 0, ()), "NoThing"), (VIEW, ("put", ("a",), 3, ()), "NoLeaf"),
                (folder(a=full), ("put", ("a",), 64, ()), "NoLeaf"),
                (VIEW, ("trim", ("b",), 0), "NoThing"), (VIEW, ("trim", ("a",), 3), "NoLeaf"),
                (folder(a=full), ("trim", ("x",), 64), "NoThing"),
                (VIEW, ("out", ("x",)), "NoThing"), (VIEW, ("out", ("a", "x")), "NoThing"), (VIEW, ("out", ("b", "x")), "NoThing"),
                (VIEW, ("move", ("x",), ("y",)), "NoThing"), (VIEW, ("move", ("a",), ("x", "y")), "NoThing"),
                (VIEW, ("move", ("b",), ("a", "y")), "NoThing"), (VIEW, ("move", ("a",), ("a", "y")), "NoThing"),
                (VIEW, ("move", ("b",), ("b", "x")), "Within"), (VIEW, ("move", ("a",), ("a",)), "Within"),
                (VIEW, ("move", ("a",), ("d",)), "Taken"), (VIEW, ("move", ("b", "c"), ("b",)), "Taken"),
                (folder(x=file(), y=EIGHT), ("move", ("x",), ("y", "x")), "TooMany"),
                (folder(a=chain(SIX[1:], file()), x=EIGHT), ("move", ("a",), ("x", "z")), "TooMany"),
                (deep, ("move", ("a",), ("b", "c", "d", "x")), "TooDeep"),
                (VIEW, ("copy", ("x",), ("y",)), "NoThing"), (VIEW, ("copy", ("a",), ("x", "y")), "NoThing"),
                (VIEW, ("copy", ("a",), ("b",)), "Taken"), (EIGHT, ("copy", ("a",), ("x",)), "TooMany"),
                (deep, ("copy", ("a",), ("b", "c", "d", "x")), "TooDeep"),
                (chain(SIX, file()), ("copy", ("a",), ("a", "x")), "TooDeep"),
                (VIEW, ("folder", ()), "NoDeed"), (VIEW, ("out", ("a",), 1), "NoDeed"), (VIEW, ["out", ("a",)], "NoDeed")):
            for once in (True, False):
                stock, blocks, place = self.stock_of(view, once)
                self.assertEqual(refusal(done, view, deed), why)
                self.assertEqual(refusal(changed, stock, place, deed), why, deed)
                self.assertEqual(stock.new(), {})

    def test_depths_that_are_allowed(self):
        for last in (file((1,)), EMPTY):
            view = folder(a=chain(("p", "q", "r"), last), b=chain(("c", "d"), EMPTY))
            self.change(view, ("move", ("a",), ("b", "c", "x")))
            self.change(view, ("copy", ("a",), ("b", "c", "x")))
        self.change(folder(a=file(*leaves(64)), b=chain(SIX[:4], EMPTY)), ("move", ("a",), ("b", "a", "b", "c", "d", "x")))
        self.change(folder(b=folder(c=chain("pq", EMPTY))), ("copy", ("b",), ("b", "c", "x")))

    def test_move_within_a_full_folder(self):
        self.change(EIGHT, ("move", ("a",), ("x",)))
        self.change(folder(a=EIGHT), ("move", ("a", "b"), ("a", "x")))

    def test_whatever_is_no_deed(self):
        for one in WHATEVER:
            stock, blocks, place = self.stock_of(VIEW, True)
            self.assertEqual(refusal(changed, stock, place, one), "NoDeed")
            self.assertEqual(stock.new(), {})

    def test_at_a_place_among_others(self):
        blocks = {}
        first = laid(blocks, VIEW)
        second = laid(blocks, folder(z=file((7,))))
        stock = Stock(blocks, 50, [], True)
        behind = changed(stock, first, ("put", ("b", "c"), 0, (7,)))
        whole = {**blocks, **stock.new()}
        self.assertEqual(thing_of(whole, behind), done(VIEW, ("put", ("b", "c"), 0, (7,))))
        self.assertEqual(thing_of(whole, first), VIEW)
        # The other view's file is like the one that is made, so it hangs there, too.
        self.assertEqual(place_at(whole, behind, ("b", "c")), place_at(whole, second, ("z",)))


class KeptPlacesTest(ChangingTest):

    def test_a_view_that_is_as_it_was(self):
        view = folder(a=folder(b=file(*leaves(21))), c=file())
        for once in (True, False):
            for deed in (("trim", ("a", "b"), 21), ("trim", ("c",), 0), ("put", ("a", "b"), 0, (0, 7)), ("put", ("a", "b"), 20, (20, 7))):
                blocks, place, whole, behind = self.change(view, deed, once)
                self.assertEqual(behind, place)
                self.assertEqual(whole, blocks)

    def test_a_view_that_is_as_it_was_with_alike_blocks_elsewhere(self):
        # Even where they are kept once from now on, blocks alike stay where they are.
        view = folder(a=file((5,)), b=file((5,)))
        for name in ("a", "b"):
            blocks, place, whole, behind = self.change(view, ("put", (name,), 0, (5,)), True)
            self.assertEqual(behind, place)
            blocks, place, whole, behind = self.change(folder(a=view, b=view), ("file", ("a", "x")), True)
            self.assertEqual(place_at(whole, behind, ("a", name)), place_at(blocks, place, ("a", name)))
            self.assertEqual(place_at(whole, behind, ("b",)), place_at(blocks, place, ("b",)))

    def test_things_beside_the_path(self):
        view = folder(a=file((1,)), b=folder(c=file((2,)), d=folder(e=file((3,)), f=EMPTY)), z=folder(y=file()))
        for once in (True, False):
            blocks, place, whole, behind = self.change(view, ("put", ("b", "d", "e"), 0, (9,)), once)
            for path in (("a",), ("b", "c"), ("b", "d", "f"), ("z",), ("z", "y")):
                self.assertEqual(place_at(whole, behind, path), place_at(blocks, place, path))
            self.assertEqual(len(whole) - len(blocks), 5)

    def test_what_is_moved(self):
        view = folder(a=folder(b=file(*leaves(17))), c=EMPTY)
        for once in (True, False):
            blocks, place, whole, behind = self.change(view, ("move", ("a",), ("c", "x")), once)
            self.assertEqual(place_at(whole, behind, ("c", "x")), place_at(blocks, place, ("a",)))
            self.assertEqual(len(whole) - len(blocks), 2)
            blocks, place, whole, behind = self.change(view, ("move", ("a", "b"), ("b",)), once)
            self.assertEqual(place_at(whole, behind, ("b",)), place_at(blocks, place, ("a", "b")))
            self.assertEqual(place_at(whole, behind, ("c",)), place_at(blocks, place, ("c",)))

    def test_what_is_copied(self):
        view = folder(a=folder(b=file(*leaves(17))), c=EMPTY)
        for once in (True, False):
            blocks, place, whole, behind = self.change(view, ("copy", ("a",), ("c", "x")), once)
            self.assertEqual(place_at(whole, behind, ("c", "x")), place_at(blocks, place, ("a",)))
            self.assertEqual(place_at(whole, behind, ("a",)), place_at(blocks, place, ("a",)))
            self.assertEqual(len(whole) - len(blocks), 2)

    def test_what_goes_out(self):
        view = folder(a=file((1,)), b=folder(c=file((2,)), d=file(*leaves(9))))
        for once in (True, False):
            blocks, place, whole, behind = self.change(view, ("out", ("b", "c")), once)
            self.assertEqual(place_at(whole, behind, ("b", "d")), place_at(blocks, place, ("b", "d")))
            self.assertEqual(len(whole) - len(blocks), 2)

    def levels(self, blocks, place):
        return file_levels(blocks, place_at(blocks, place, ("a",)))

    def check_kept(self, many, deed, once):
        """Leaves and branches that are as they were keep their places; the others, and no more, come new."""
        blocks, place, whole, behind = self.change(folder(a=file(*leaves(many))), deed, once)
        ahead, after = self.levels(blocks, place), self.levels(whole, behind)
        new = 2
        for number, level in enumerate(after):
            elder = ahead[number] if number < len(ahead) else []
            for at, each in enumerate(level):
                if at < len(elder) and whole[elder[at]] == whole[each]:
                    self.assertEqual(each, elder[at], (many, deed))
                else:
                    self.assertNotIn(each, blocks, (many, deed))
                    new += 1
        self.assertEqual(len(whole) - len(blocks), new, (many, deed))

    def test_branches_and_leaves_of_a_file_that_is_put(self):
        for many in range(65):
            for at in sorted({0, 1, 3, 4, 5, 15, 16, 17, many // 2, many - 1, many}):
                if 0 <= at <= many and at < 64:
                    for once in (True, False):
                        self.check_kept(many, ("put", ("a",), at, (200, at)), once)

    def test_branches_and_leaves_of_a_file_that_is_trimmed(self):
        for many in range(1, 65):
            for left in range(many):
                self.check_kept(many, ("trim", ("a",), left), True)
                self.check_kept(many, ("trim", ("a",), left), False)

    def test_how_many_come_new(self):
        for once in (True, False):
            self.assertEqual(self.new_of(folder(a=file(*leaves(4))), ("put", ("a",), 4, (9,)), once)[0], (0, 9))
            self.assertEqual(len(self.new_of(folder(a=file(*leaves(4))), ("put", ("a",), 4, (9,)), once)), 5)
            self.assertEqual(len(self.new_of(folder(a=file(*leaves(16))), ("put", ("a",), 16, (9,)), once)), 6)
            self.assertEqual(len(self.new_of(folder(a=file(*leaves(17))), ("trim", ("a",), 16), once)), 2)
            self.assertEqual(len(self.new_of(folder(a=file(*leaves(5))), ("trim", ("a",), 4), once)), 2)
            self.assertEqual(len(self.new_of(folder(a=file(*leaves(64))), ("put", ("a",), 63, (9,)), once)), 5)

    def test_kept_once_or_not(self):
        view = folder(a=file((1,)), b=file((2,)))
        blocks, place, whole, behind = self.change(view, ("put", ("b",), 0, (1,)), True)
        self.assertEqual(place_at(whole, behind, ("b",)), place_at(blocks, place, ("a",)))
        self.assertEqual(len(whole) - len(blocks), 1)
        blocks, place, whole, behind = self.change(view, ("put", ("b",), 0, (1,)), False)
        self.assertNotIn(place_at(whole, behind, ("b",)), blocks)
        self.assertEqual(len(whole) - len(blocks), 3)
        self.assertEqual(self.new_of(folder(a=EMPTY), ("folder", ("b",)), True), [(3, 1, 1, 2, 1)])
        self.assertEqual(len(self.new_of(folder(a=EMPTY), ("folder", ("b",)), False)), 2)


class SixteenTest(ChangingTest):
    """Two rows of folders as long as may be, with a file of 64 leaves at the end of one."""

    ROWS = folder(a=chain(SIX[1:], file(*leaves(64))), b=chain(("v", "w", "x", "y"), EMPTY))
    DEEDS = (
        ("move", SIX, ("b", "v", "w", "x", "y", "z")), ("copy", SIX, ("b", "v", "w", "x", "y", "z")), ("put", SIX, 63, (200,)),
        ("put", SIX, 0, (200,)), ("trim", SIX, 63), ("trim", SIX, 17), ("trim", SIX, 49), ("trim", SIX, 5), ("trim", SIX, 0),
        ("out", SIX), ("folder", ("b", "v", "w", "x", "y", "z")), ("file", ("b", "v", "w", "x", "y", "z")), ("move", ("b",), ("z",)),
    )

    def few_left(self, view, deed, once, many):
        """The stock behind the deed, with so many places open."""
        blocks = {}
        place = laid(blocks, view)
        most = len(blocks) + many
        # The places that are open stand behind one that may not be used.
        stock = Stock(blocks, most + 1, [len(blocks) + 1], once)
        behind = changed(stock, place, deed)
        self.assertEqual(thing_of({**blocks, **stock.new()}, behind), done(view, deed))
        return stock

    def test_no_more_than_sixteen(self):
        for once in (True, False):
            for deed in self.DEEDS:
                self.assertLessEqual(len(self.new_of(self.ROWS, deed, once)), 16)

    def test_never_full_where_sixteen_are_open(self):
        for once in (True, False):
            for deed in self.DEEDS:
                stock = self.few_left(self.ROWS, deed, once, 16)
                self.assertLessEqual(len(stock.new()), 16)

    def test_all_that_is_made_on_the_way_counts(self):
        # A move between the ends makes eleven folders; the outermost one isn't made twice.
        self.assertEqual(len(self.few_left(self.ROWS, self.DEEDS[0], False, 11).new()), 11)
        # Where they are kept once there is an empty folder already.
        self.assertEqual(len(self.few_left(self.ROWS, self.DEEDS[0], True, 10).new()), 10)

    def test_heights(self):
        for many in (4, 16, 63):
            view = chain(SIX, file(*leaves(many)))
            for once in (True, False):
                self.few_left(view, ("put", SIX, many, (200,)), once, 16)

    def test_full(self):
        for once in (True, False):
            blocks = {}
            place = laid(blocks, VIEW)
            stock = Stock(blocks, len(blocks) + 1, [], once)
            self.assertEqual(refusal(changed, stock, place, ("put", ("a",), 0, (77,))), "Full")
            stock = Stock(blocks, len(blocks), [], once)
            self.assertEqual(changed(stock, place, ("trim", ("a",), 2)), place)
            self.assertEqual(refusal(changed, Stock(blocks, len(blocks), [], once), place, ("out", ("x",))), "NoThing")


class ManyPathsTest(unittest.TestCase):

    def test_a_thing_at_very_many_paths(self):
        # Its room is far above what could be told as a thing.
        for last in (EMPTY, file(*leaves(64))):
            for once in (True, False):
                blocks, place = dense(last)
                stock = Stock(blocks, 400, [], once)
                self.assertEqual(refusal(changed, stock, place, ("copy", ("a",), ("b", "x"))), "TooMany")
                inner = blocks[place][2]
                outer = put_block(blocks, (3, code_of("a"), inner, code_of("b"), put_block(blocks, (3,))))
                stock = Stock(blocks, 400, [], once)
                self.assertEqual(refusal(changed, stock, outer, ("copy", ("a",), ("b", "x"))), "TooDeep")
                self.assertEqual(stock.new(), {})
                behind = changed(stock, outer, ("copy", ("a", "a"), ("b", "x")))
                self.assertIs(is_good({**blocks, **stock.new()}, behind, "folder"), True)
                self.assertEqual(len(stock.new()), 2)

    def test_many_copies(self):
        # Doubled again and again: only the folders on the way are made.
        for once in (True, False):
            stock = Stock({1: (3,)}, 400, [], once)
            place = changed(stock, 1, ("folder", ("a",)))
            for name, other in zip("abcde", "bcdef"):
                for inner in "stuvwxyz":
                    place = changed(stock, place, ("copy", (name,), ("x",)))
                    place = changed(stock, place, ("folder", (other,))) if inner == "s" else place
                    place = changed(stock, place, ("move", ("x",), (other, inner)))
                    stock.keep(place)
            self.assertIs(is_good(stock.new() | {1: (3,)}, place, "folder"), True)


class BesideViewsTest(unittest.TestCase):

    def test_rows_of_deeds(self):
        seen = set()
        for seed in range(6):
            for once in (True, False):
                source = random.Random(seed)
                stock, view = Stock({1: (3,)}, 400, [], once), EMPTY
                place = 1
                for turn in range(400):
                    deed = some_deed(source, paths_of(view))
                    why = refusal(done, view, deed)
                    seen.add((deed[0], why))
                    new = stock.new()
                    if why is not None:
                        self.assertEqual(refusal(changed, stock, place, deed), why, (view, deed))
                        self.assertEqual(stock.new(), new)
                        continue
                    if room_of(done(view, deed)) > 120:
                        continue
                    behind = changed(stock, place, deed)
                    view = done(view, deed)
                    whole = {1: (3,), **stock.new()}
                    came = [each for each in stock.new() if each not in new]
                    self.assertLessEqual(len(came), 16)
                    self.assertEqual(thing_of(whole, behind), view)
                    self.assertIs(is_good(whole, behind, "folder"), True)
                    self.assertLessEqual(set(came), set(come_to(whole, [behind])))
                    if once:
                        self.assertEqual(len(set(whole.values())), len(whole))
                    place = behind
                    stock.keep(place)
                    self.assertEqual(sorted({1: 0, **stock.new()}), sorted({1: 0, **dict.fromkeys(come_to(whole, [place]))}))
                    for each in stock.new():
                        self.assertTrue(all(link == 1 or link in stock.new() for link in links(stock.content(each))))
        for word in ("folder", "file", "put", "trim", "out", "move", "copy"):
            self.assertIn((word, None), seen)
        for why in ("NoThing", "Within", "Taken", "TooDeep"):
            self.assertIn(("move", why), seen)


if __name__ == "__main__":
    unittest.main()
