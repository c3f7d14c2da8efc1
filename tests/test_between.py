"""The deeds between two views (31)."""

import random
import unittest

from helper import EMPTY, chain, dense, file, folder, laid, leaves, put_block, refusal, some_deeds
from snapshelf.between import between, told_between
from snapshelf.deeds import all_done
from snapshelf.making import made
from snapshelf.names import code_of
from snapshelf.stock import Stock
from snapshelf.things import is_view
from snapshelf.trees import thing_of


def modelled(path, first, second):
    """The deeds between two folders, told anew from the words of the document."""
    deeds = []
    ahead, behind = dict(first[1]), dict(second[1])
    for name, thing in first[1]:
        if name not in behind or behind[name][0] != thing[0]:
            deeds.append(("out", path + (name,)))
            del ahead[name]
    for name, thing in second[1]:
        there = path + (name,)
        if name not in ahead:
            deeds.append((thing[0], there))
            ahead[name] = (thing[0], ())
        if thing[0] == "folder":
            deeds += modelled(there, ahead[name], thing)
            continue
        old, new = ahead[name][1], thing[1]
        if len(old) > len(new):
            deeds.append(("trim", there, len(new)))
        for at, leaf in enumerate(new):
            if old[at:at + 1] != (leaf,):
                deeds.append(("put", there, at, leaf))
    return deeds


class BetweenTest(unittest.TestCase):

    def check(self, first, second, due=None):
        """The deeds are as told, of the views and of places in blocks, and make the second of the first."""
        deeds = told_between(first, second)
        self.assertIsInstance(deeds, list)
        if due is not None:
            self.assertEqual(deeds, due)
        self.assertEqual(deeds, modelled((), first, second))
        self.assertEqual(all_done(first, deeds), second)
        for once in (True, False):
            stock = Stock({}, 2000, [], once)
            places = made(stock, first), made(stock, second)
            self.assertEqual(between(stock.new(), *places), deeds)
        blocks = {}
        self.assertEqual(between(blocks, laid(blocks, first), laid(blocks, second)), deeds)

    def test_of_the_same_view_none(self):
        for view in (EMPTY, folder(a=EMPTY), folder(a=file((1,), ()), b=folder(a=file()))):
            self.check(view, view, [])

    def test_names_gone_new_and_of_the_other_kind(self):
        first = folder(a=file((1,)), b=EMPTY, c=file(), d=folder(a=file()), aa=EMPTY)
        second = folder(b=file((2,), (3,)), d=folder(a=EMPTY), e=folder(a=file((4,)), b=EMPTY), z=file(), aa=EMPTY)
        self.check(first, second, [
            ("out", ("a",)), ("out", ("b",)), ("out", ("c",)), ("file", ("b",)), ("put", ("b",), 0, (2,)), ("put", ("b",), 1, (3,)),
            ("out", ("d", "a")), ("folder", ("d", "a")), ("folder", ("e",)), ("file", ("e", "a")), ("put", ("e", "a"), 0, (4,)),
            ("folder", ("e", "b")), ("file", ("z",)),
        ])
        self.check(second, first)

    def test_all_that_goes_first_makes_room_in_a_full_folder(self):
        first = folder(**{name: file() for name in "abcdefgh"})
        second = folder(**{name: file() for name in "hijklmno"})
        self.check(first, second)

    def test_files(self):
        self.check(folder(a=file((1,), (2,))), folder(a=file((1,), (2,), (3,), ())), [("put", ("a",), 2, (3,)), ("put", ("a",), 3, ())])
        self.check(folder(a=file((1,), (2,), (3,))), folder(a=file((1,))), [("trim", ("a",), 1)])
        self.check(folder(a=file((1,), (2,), (3,))), folder(a=file()), [("trim", ("a",), 0)])
        self.check(folder(a=file((1,), (2,), (3,))), folder(a=file((9,), (2,))), [("trim", ("a",), 2), ("put", ("a",), 0, (9,))])
        self.check(folder(a=file((1,), (2,), (3,))), folder(a=file((1,), (), (3,))), [("put", ("a",), 1, ())])
        self.check(folder(a=file(*leaves(64))), folder(a=file(*leaves(63)[::-1])))
        self.check(folder(a=file()), folder(a=file(*leaves(64))))

    def test_folders_within_folders(self):
        names = ("a", "b", "c", "d", "e")
        first = chain(names, folder(a=file((1,))))
        second = chain(names, folder(a=file((2,)), b=EMPTY))
        self.check(first, second, [("put", names + ("a",), 0, (2,)), ("folder", names + ("b",))])
        self.check(EMPTY, second)
        self.check(second, EMPTY, [("out", ("a",))])
        self.check(chain(("a", "b", "c", "d", "e", "f"), EMPTY), chain(("a", "b", "c", "d", "e", "g"), EMPTY), [
            ("out", ("a", "b", "c", "d", "e", "f")), ("folder", ("a", "b", "c", "d", "e", "g")),
        ])

    def test_some_views(self):
        for seed in range(40):
            source = random.Random(seed)
            elder = all_done(EMPTY, some_deeds(source, EMPTY, 15))
            first = all_done(elder, some_deeds(source, elder, source.randint(0, 12)))
            second = all_done(elder, some_deeds(source, elder, source.randint(0, 12)))
            self.assertTrue(is_view(first) and is_view(second))
            self.check(first, second)
            self.check(EMPTY, first)
            self.check(first, EMPTY)

    def test_nothing_is_written_into_the_blocks(self):
        blocks = {}
        places = laid(blocks, folder(a=file((1,)))), laid(blocks, folder(b=file((1,))))
        ahead = dict(blocks)
        deeds = between(blocks, *places)
        deeds.clear()
        self.assertEqual(blocks, ahead)
        self.assertEqual(len(between(blocks, *places)), 3)

    def test_blocks_that_hang_at_very_many_paths(self):
        blocks, first = dense(file((1,)))
        self.assertEqual(between(blocks, first, first), [])
        other, second = dense(file((1,)))
        # The same view once more at other places.
        for place in sorted(other):
            content = other[place]
            moved = {2: content[:2] + tuple(link + 50 for link in content[2:])}.get(content[0], content)
            if content[0] == 3:
                moved = (3,) + tuple(part + 50 if at % 2 else part for at, part in enumerate(content[1:]))
            blocks[place + 50] = moved
        self.assertEqual(between(blocks, first, second + 50), [])
        top = dict(zip(blocks[first][1::2], blocks[first][2::2]))
        top[code_of("h")] = put_block(blocks, (3,))
        third = put_block(blocks, (3,) + tuple(part for pair in sorted(top.items()) for part in pair))
        self.assertEqual(between(blocks, second + 50, third), [("out", ("h", name)) for name in "abcdefgh"])

    def test_lost(self):
        blocks = {}
        places = laid(blocks, folder(a=file((1,)))), laid(blocks, folder(a=file((2,))))
        self.assertEqual(thing_of(blocks, places[1]), folder(a=file((2,))))
        del blocks[places[1]]
        self.assertEqual(refusal(between, blocks, *places), "Lost")


if __name__ == "__main__":
    unittest.main()
