"""Stocks, and things made by them (17)."""

import unittest

from helper import EMPTY, chain, file, folder, laid, leaves, refusal
from snapshelf.making import made
from snapshelf.stock import Stock
from snapshelf.trees import is_good, thing_of


class StockTest(unittest.TestCase):
    BLOCKS = {2: (0, 1), 5: (2, 1, 2), 3: (3, 1, 5)}

    def test_a_content_that_is_kept_once(self):
        stock = Stock(self.BLOCKS, 10, [], True)
        self.assertEqual(stock.place_for((0, 1)), 2)
        self.assertEqual(stock.place_for((2, 1, 2)), 5)
        self.assertEqual(stock.new(), {})
        place = stock.place_for((0, 2))
        self.assertEqual([stock.place_for((0, 2)) for again in range(3)], [place] * 3)
        self.assertEqual(stock.new(), {place: (0, 2)})

    def test_a_place_that_may_not_be_used_is_still_a_contents(self):
        stock = Stock(self.BLOCKS, 10, list(range(1, 11)), True)
        self.assertEqual([stock.place_for(self.BLOCKS[place]) for place in (2, 3, 5)], [2, 3, 5])

    def test_of_several_the_same_one_each_time(self):
        stock = Stock({7: (0,), 2: (0,), 4: (0,)}, 10, [], True)
        first = stock.place_for((0,))
        self.assertIn(first, (2, 4, 7))
        stock.place_for((0, 1))
        self.assertEqual(stock.place_for((0,)), first)
        stock.keep(first)
        self.assertEqual(stock.place_for((0,)), first)
        self.assertEqual(stock.new(), {})

    def test_blocks_that_are_not_kept_once(self):
        stock = Stock(self.BLOCKS, 8, [1], False)
        told = [stock.place_for((0, 1)) for again in range(4)]
        self.assertEqual(sorted(told), [4, 6, 7, 8])
        self.assertEqual(stock.new(), {place: (0, 1) for place in told})

    def test_a_place_that_may_be_used_and_had_none(self):
        for once in (True, False):
            stock = Stock(self.BLOCKS, 9, [1, 7, 5, 20], once)
            told = [stock.place_for((0, 100 + number)) for number in range(4)]
            self.assertEqual(sorted(told), [4, 6, 8, 9])
            self.assertEqual(stock.new(), {place: (0, 100 + number) for number, place in enumerate(told)})

    def test_full(self):
        for once in (True, False):
            stock = Stock(self.BLOCKS, 5, [1], once)
            self.assertEqual(stock.place_for((0, 9)), 4)
            self.assertEqual(refusal(stock.place_for, (0, 8)), "Full")
            self.assertEqual(refusal(Stock({}, 8, list(range(1, 9)), once).place_for, (0,)), "Full")
        known = Stock(self.BLOCKS, 5, [1, 4], True)
        self.assertEqual(known.place_for((0, 1)), 2)
        self.assertEqual(refusal(Stock(self.BLOCKS, 5, [1, 4], False).place_for, (0, 1)), "Full")

    def test_content_of_a_place(self):
        stock = Stock(self.BLOCKS, 10, [1], True)
        self.assertEqual([stock.content(place) for place in (2, 3, 5)], [(0, 1), (3, 1, 5), (2, 1, 2)])
        for place in (1, 4, 10, 11):
            self.assertEqual(refusal(stock.content, place), "Lost")
        place = stock.place_for((3,))
        self.assertEqual(stock.content(place), (3,))

    def test_nothing_new_at_first(self):
        self.assertEqual(Stock(self.BLOCKS, 10, [], True).new(), {})
        self.assertEqual(Stock({}, 10, [], False).new(), {})

    def test_keep(self):
        for once in (True, False):
            stock = Stock(self.BLOCKS, 20, [], once)
            leaf = stock.place_for((0, 5))
            other = stock.place_for((0, 6))
            own = stock.place_for((2, 2, leaf, 2))
            view = stock.place_for((3, 1, own, 2, 5))
            stray = stock.place_for((3, 1, other))
            stock.keep(view)
            self.assertEqual(stock.new(), {leaf: (0, 5), own: (2, 2, leaf, 2), view: (3, 1, own, 2, 5)})
            for place in (other, stray):
                self.assertEqual(refusal(stock.content, place), "Lost")
            self.assertEqual([stock.content(place) for place in (2, 3, 5)], [(0, 1), (3, 1, 5), (2, 1, 2)])

    def test_what_was_let_go_comes_new_again(self):
        for once in (True, False):
            stock = Stock({}, 2, [], once)
            first = stock.place_for((0, 1))
            second = stock.place_for((0, 2))
            stock.keep(first)
            self.assertEqual(stock.new(), {first: (0, 1)})
            self.assertEqual(stock.place_for((0, 2)), second)
            self.assertEqual(stock.new(), {first: (0, 1), second: (0, 2)})
            stock.keep(second)
            self.assertEqual(stock.place_for((0, 3)), first)
            self.assertEqual(stock.content(first), (0, 3))

    def test_two_alike_let_go_where_they_are_not_kept_once(self):
        stock = Stock({}, 4, [], False)
        places = [stock.place_for((0, 1)) for again in range(3)]
        last = stock.place_for((3,))
        stock.keep(last)
        self.assertEqual(stock.new(), {last: (3,)})
        self.assertEqual(sorted(stock.place_for((0, 1)) for again in range(3)), sorted(places))

    def test_keep_at_a_place_that_was_there(self):
        stock = Stock(self.BLOCKS, 10, [], True)
        stock.place_for((0, 9))
        stock.keep(3)
        self.assertEqual(stock.new(), {})
        # What was there stays, even where it isn't come to.
        stock.keep(2)
        self.assertEqual(stock.content(3), (3, 1, 5))

    def test_what_is_handed_in_stays(self):
        blocks, used = dict(self.BLOCKS), [1, 9]
        for once in (True, False):
            stock = Stock(blocks, 20, used, once)
            made(stock, file((9,)))
            place = made(stock, folder(a=file(*leaves(4))))
            stock.keep(place)
            self.assertEqual((blocks, used), (self.BLOCKS, [1, 9]))

    def test_what_is_handed_in_may_change_later(self):
        blocks, used = dict(self.BLOCKS), [1]
        stock = Stock(blocks, 10, used, True)
        blocks.clear()
        used.append(4)
        self.assertEqual(stock.content(2), (0, 1))
        self.assertEqual(stock.place_for((3,)), 4)

    def test_new_is_a_dict_of_its_own(self):
        stock = Stock({}, 10, [], True)
        place = stock.place_for((3,))
        stock.new().clear()
        self.assertEqual(stock.new(), {place: (3,)})
        self.assertEqual(stock.content(place), (3,))


class MadeTest(unittest.TestCase):
    THINGS = (
        EMPTY, file(), file(()), file((1,), (1,)), folder(a=EMPTY, b=EMPTY, aa=file()), chain("abcdef", file((1, 2))),
        folder(a=file((1,), (2,)), b=folder(c=file((1,), (2,)), d=folder(e=EMPTY)), z=file(*leaves(17)), ab=file()),
    )

    def stands(self, stock, thing, place, blocks):
        whole = {**blocks, **stock.new()}
        self.assertEqual(thing_of(whole, place), thing)
        self.assertIs(is_good(whole, place, thing[0]), True)

    def test_things(self):
        for once in (True, False):
            for thing in self.THINGS:
                stock = Stock({}, 400, [3, 5], once)
                self.stands(stock, thing, made(stock, thing), {})

    def test_files_of_each_number_of_leaves(self):
        for many in range(65):
            for once in (True, False):
                stock = Stock({}, 400, [], once)
                place = made(stock, file(*leaves(many)))
                self.stands(stock, file(*leaves(many)), place, {})
                expected = {}
                laid(expected, file(*leaves(many)))
                # No two blocks of it are alike, so there are as many either way.
                self.assertEqual(len(stock.new()), len(expected))

    def test_alike_leaves(self):
        alike = file(*[(1,)] * 64)
        stock = Stock({}, 400, [], True)
        self.stands(stock, alike, made(stock, alike), {})
        self.assertEqual(len(stock.new()), 4)
        stock = Stock({}, 400, [], False)
        self.stands(stock, alike, made(stock, alike), {})
        self.assertEqual(len(stock.new()), 64 + 16 + 4 + 1)

    def test_made_again(self):
        for thing in self.THINGS:
            stock = Stock({}, 400, [], True)
            place = made(stock, thing)
            new = stock.new()
            self.assertEqual(made(stock, thing), place)
            self.assertEqual(stock.new(), new)
            self.assertEqual(len(set(new.values())), len(new))
            stock = Stock({}, 400, [], False)
            place = made(stock, thing)
            many = len(stock.new())
            again = made(stock, thing)
            self.assertNotEqual(again, place)
            self.assertEqual(len(stock.new()), 2 * many)
            self.stands(stock, thing, place, {})
            self.stands(stock, thing, again, {})

    def test_beside_what_is_there(self):
        blocks = {}
        there = laid(blocks, folder(a=file((1,), (2,))))
        stock = Stock(blocks, 50, [], True)
        place = made(stock, folder(b=file((1,), (2,)), c=folder(a=file((1,), (2,)))))
        self.assertEqual(list(stock.new()), [place])
        self.assertEqual(stock.content(place)[2], stock.content(there)[2])
        self.assertEqual(stock.content(place)[4], there)

    def test_full(self):
        thing = folder(a=file((1,), (2,)))
        for once in (True, False):
            self.assertEqual(refusal(made, Stock({}, 9, [1, 2, 3, 4, 5], once), thing), None)
            self.assertEqual(refusal(made, Stock({}, 9, [1, 2, 3, 4, 5, 6], once), thing), "Full")


if __name__ == "__main__":
    unittest.main()
