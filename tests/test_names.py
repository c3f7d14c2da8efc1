"""Names, codes and paths (4, 5)."""

import itertools
import unittest

from helper import WHATEVER
from snapshelf.errors import NoName
from snapshelf.names import code_of, name_of, rank_of, read_path, written_path

CODES = (
    ("a", 1), ("b", 2), ("z", 26), ("aa", 28), ("az", 53), ("ba", 55), ("zz", 728), ("aaa", 757),
    ("snap", ((19 * 27 + 14) * 27 + 1) * 27 + 16), ("aaaaaaaa", (27 ** 8 - 1) // 26), ("zzzzzzzz", 27 ** 8 - 1),
)
NO_NAMES = (
    "", "A", "Ab", "aB", "a1", "a_b", "a b", " a", "a ", "a\n", "\na", "a\nb", "a/b", "/", "`", "{", "abcdefghi",
    "aaaaaaaaa", "\u00e4", "\u00df", "\u0430", 0, 1, 28, (), ("a",), ("a", "b"), ["a"], {"a": 1}, b"a",
)


class CodesTest(unittest.TestCase):

    def test_codes_and_names_both_ways(self):
        for name, code in CODES:
            self.assertEqual(code_of(name), code)
            self.assertEqual(name_of(code), name)

    def test_every_short_name_comes_back(self):
        letters = "abcdefghijklmnopqrstuvwxyz"
        codes = []
        for many in (1, 2):
            for signs in itertools.product(letters, repeat=many):
                codes.append(code_of("".join(signs)))
                self.assertEqual(name_of(codes[-1]), "".join(signs))
        self.assertEqual(codes, sorted(set(codes)))

    def test_numbers_that_are_no_names_code(self):
        for code in (0, 27, 54, 27 * 27, 27 * 27 + 1, 28 * 27, 27 ** 7, 27 ** 8 - 27, 27 ** 8, 27 ** 8 + 1, 27 ** 9 - 1):
            self.assertRaises(NoName, name_of, code)
        for code in (-1, -28, (27 ** 9 - 1) // 26, 10 ** 40, -(10 ** 40)):
            self.assertRaises(NoName, name_of, code)

    def test_every_small_number_is_a_code_or_refused(self):
        for code in range(1000):
            if code % 27 and (code // 27 % 27 or code < 27) and code:
                self.assertEqual(code_of(name_of(code)), code)
            else:
                self.assertRaises(NoName, name_of, code)

    def test_what_is_no_name(self):
        for one in NO_NAMES + WHATEVER:
            self.assertRaises(NoName, code_of, one)

    def test_what_is_no_code(self):
        for one in ("", "a", "1", "28", True, False, None, (), (1,), [1], {1: 1}, "aaaaaaaa") + WHATEVER:
            self.assertRaises(NoName, name_of, one)

    def test_names_are_sorted_by_their_codes(self):
        names = [name for name, code in CODES] + ["b", "ab", "y", "zzz", "aaaa", "aab", "zaa"]
        self.assertEqual(sorted(names, key=rank_of), sorted(names, key=code_of))


class PathsTest(unittest.TestCase):

    def test_written_and_read_back(self):
        names = ("a", "bb", "ccc", "z", "abcdefgh", "a")
        texts = ("", "a", "a/bb", "a/bb/ccc", "a/bb/ccc/z", "a/bb/ccc/z/abcdefgh", "a/bb/ccc/z/abcdefgh/a")
        for many, text in enumerate(texts):
            self.assertEqual(written_path(names[:many]), text)
            self.assertEqual(read_path(text), names[:many])
            self.assertIsInstance(read_path(text), tuple)

    def test_texts_that_write_no_path(self):
        texts = (
            "/", "/a", "a/", "a//b", "//", "a/b/", " ", "a b", "a/ b", "a /b", "a\n", "\n", "a/b\n", "A", "a/B", "a/1",
            "a.b", "a\\b", "abcdefghi", "a/abcdefghi", "a/b/c/d/e/f/g", "a/a/a/a/a/a/", "/a/a/a/a/a", "\u00e4",
        )
        for text in texts:
            self.assertRaises(NoName, read_path, text)

    def test_what_is_no_text(self):
        for one in (0, 1, (), ("a",), ("a", "b"), ["a", "b"], {"a": 1}) + WHATEVER:
            self.assertRaises(NoName, read_path, one)

    def test_nothing_is_refused_in_writing(self):
        self.assertEqual(written_path(("a",) * 7), "a/a/a/a/a/a/a")


if __name__ == "__main__":
    unittest.main()
