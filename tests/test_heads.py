"""The contents of roots and ledgers (20)."""

import unittest

from snapshelf.heads import ledger_content, read_ledger, read_root, root_content
from snapshelf.names import code_of

HOME = ("home", "house", 7, 100)
MONDAY = ("monday", "snap", 9, "home")
ROWS = [HOME, MONDAY, ("a", "house", 400, 1), ("zzzzzzzz", "house", 1, 500), ("aa", "snap", 7, "gone")]
TWELVE = [(name, "house", 5, 10) for name in "abcdefghijkl"]


class RootTest(unittest.TestCase):

    def no_root(self, *contents):
        for content in contents:
            self.assertIsNone(read_root(content), content)

    def test_a_roots_content(self):
        self.assertEqual(root_content(1, True, []), (1, 1))
        self.assertEqual(root_content(1, False, []), (1, 0))
        self.assertEqual(root_content(12, True, [("a", "house", 7, 100)]), (12, 1, 1, 0, 7, 100))
        self.assertEqual(root_content(3, False, [("b", "snap", 9, "aa"), ("z", "house", 4, 500)]), (3, 0, 2, 1, 9, 28, 26, 0, 4, 500))
        self.assertIsInstance(root_content(1, True, ROWS), tuple)
        for number in root_content(5, True, ROWS) + root_content(5, False, ROWS):
            self.assertNotIsInstance(number, bool)

    def test_read(self):
        for generation in (1, 2, 77, 10 ** 12):
            for once in (True, False):
                for rows in ([], ROWS, ROWS[::-1], [HOME], [MONDAY], TWELVE):
                    told = read_root(root_content(generation, once, rows))
                    self.assertEqual(told, (generation, once, rows))
                    self.assertIs(told[1], once)
                    self.assertIsInstance(told, tuple)
                    self.assertIsInstance(told[2], list)

    def test_what_is_handed_in_stays(self):
        rows = list(ROWS)
        read_root(root_content(4, True, rows))[2].clear()
        self.assertEqual(rows, ROWS)

    def test_generation(self):
        self.no_root((0, 0), (0, 1), root_content(0, True, ROWS))

    def test_once(self):
        self.no_root((1, 2), (1, 3, 1, 0, 7, 100), (1, 10 ** 20))

    def test_how_many_entries(self):
        self.assertEqual(len(read_root(root_content(1, True, TWELVE))[2]), 12)
        self.no_root(root_content(1, True, TWELVE + [("m", "house", 5, 10)]))
        self.no_root(root_content(1, True, TWELVE + [("m", "house", 5, 10), ("n", "snap", 5, "a")]))

    def test_two_with_one_name(self):
        self.no_root(root_content(1, True, [HOME, HOME]), root_content(1, True, [HOME, ("home", "house", 8, 3)]))
        self.no_root(root_content(1, False, [HOME, MONDAY, ("home", "snap", 8, "a")]))
        self.no_root(root_content(1, False, [MONDAY, ("a", "house", 8, 5), ("monday", "snap", 8, "a")]))

    def test_places(self):
        self.no_root((1, 1, 1, 0, 0, 100), (1, 1, 1, 1, 0, 5), root_content(1, True, ROWS + [("x", "snap", 0, "a")]))
        self.assertEqual(read_root((1, 1, 1, 0, 10 ** 9, 100)), (1, True, [("a", "house", 10 ** 9, 100)]))

    def test_bounds(self):
        self.no_root((1, 1, 1, 0, 5, 0), (1, 1, 1, 0, 5, 501), (1, 1, 1, 0, 5, 10 ** 20))
        for bound in (1, 500):
            self.assertEqual(read_root((1, 1, 1, 0, 5, bound)), (1, True, [("a", "house", 5, bound)]))

    def test_kinds(self):
        self.no_root((1, 1, 1, 2, 5, 10), (1, 1, 1, 3, 5, 1), (1, 1, 1, 10 ** 20, 5, 1))

    def test_codes(self):
        for code in (0, 27, 54, 729, 27 ** 8, 27 ** 8 + 1, 10 ** 30):
            self.no_root((1, 1, code, 0, 5, 10), (1, 1, code, 1, 5, 1), (1, 1, 1, 1, 5, code))
        # What is no code may be a bound.
        self.assertEqual(read_root((1, 1, 1, 0, 5, 27)), (1, True, [("a", "house", 5, 27)]))
        self.assertEqual(read_root((1, 1, 1, 1, 5, 27 ** 8 - 1)), (1, True, [("a", "snap", 5, "zzzzzzzz")]))
        self.assertEqual(read_root((1, 1, 1, 1, 5, 1)), (1, True, [("a", "snap", 5, "a")]))

    def test_numbers_too_many_or_too_few(self):
        self.no_root((), (1,))
        whole = root_content(3, True, ROWS)
        for many in range(len(whole)):
            if many % 4 != 2:
                self.no_root(whole[:many])
        for more in ((1,), (1, 0), (1, 0, 5)):
            self.no_root(whole + more, (1, 1) + more)

    def test_one_row_among_good_ones(self):
        good = root_content(1, True, [HOME])[2:]
        for bad in ((0, 0, 5, 10), (1, 2, 5, 10), (1, 0, 0, 10), (1, 0, 5, 0), (1, 1, 5, 0)):
            self.no_root((1, 1) + bad + good, (1, 1) + good + bad)


class LedgerTest(unittest.TestCase):

    def test_a_ledgers_content(self):
        counts = [0, 3, 0, 1, 0, 0, 0, 0, 7]
        self.assertEqual(ledger_content(5, counts), (5, 3, 0, 1, 0, 0, 0, 0, 7))
        self.assertIsInstance(ledger_content(5, counts), tuple)
        self.assertEqual(counts, [0, 3, 0, 1, 0, 0, 0, 0, 7])
        self.assertEqual(ledger_content(1, [0] * 9), (1,) + (0,) * 8)

    def test_read(self):
        for places in (8, 9, 400):
            for generation in (1, 6, 10 ** 9):
                counts = [0] + [place % 3 for place in range(places)]
                told = read_ledger(ledger_content(generation, counts), places)
                self.assertEqual(told, (generation, counts))
                self.assertIsInstance(told, tuple)
                self.assertIsInstance(told[1], list)
                self.assertEqual(len(told[1]), places + 1)

    def test_no_ledger(self):
        whole = ledger_content(5, [0] * 9)
        self.assertEqual(read_ledger(whole, 8), (5, [0] * 9))
        for content in ((), (5,), whole[:-1], whole + (0,), (0,) + whole[1:], whole + whole):
            self.assertIsNone(read_ledger(content, 8))
        for places in (7, 9, 400):
            self.assertIsNone(read_ledger(whole, places))

    def test_codes_are_names(self):
        self.assertEqual(root_content(1, True, [HOME])[2], code_of("home"))
        self.assertEqual(root_content(1, True, [MONDAY])[5], code_of("home"))


if __name__ == "__main__":
    unittest.main()
