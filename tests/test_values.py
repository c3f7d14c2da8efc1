"""What the modules share: numbers, contents, numbers in texts, copies (2)."""

import unittest

from helper import WHATEVER
from snapshelf.values import copied, is_content, is_number, is_number_to, read_number


class ValuesTest(unittest.TestCase):

    def test_numbers(self):
        for one in (0, 1, -1, 255, 10 ** 40):
            self.assertIs(is_number(one), True)
        for one in (True, False, None, "1", "", (1,), [1], {1: 1}, ()):
            self.assertIs(is_number(one), False)

    def test_numbers_to_a_bound(self):
        self.assertEqual([is_number_to(one, 3) for one in (-1, 0, 3, 4, True, "1", None)], [False, True, True] + [False] * 4)

    def test_contents(self):
        for one in ((), (0,), (1, 2), (10 ** 40,)):
            self.assertIs(is_content(one), True)
        for one in ((-1,), (1, True), (1, None), [1], [], "1", 1, None, ((1,),), {}):
            self.assertIs(is_content(one), False)

    def test_numbers_in_texts(self):
        for word, number in (("0", 0), ("7", 7), ("10", 10), ("255", 255)):
            self.assertEqual(read_number(word, 255), number)
        for word in ("", "00", "01", "007", "256", "300", "1000", "+1", "-1", "-0", " 1", "1 ", "1\n", "1_0", "a", "\u0661", "\u00b2"):
            self.assertIsNone(read_number(word, 255), word)
        self.assertIsNone(read_number("9" * 10000, 255))

    def test_copies(self):
        for one in WHATEVER:
            self.assertEqual(copied(one), one)
            self.assertIs(copied(one).__class__, one.__class__)
        one = [1, ([2], {"a": [3]})]
        other = copied(one)
        one[1][0].append(4)
        one[1][1]["a"].append(5)
        one.append(6)
        self.assertEqual(other, [1, ([2], {"a": [3]})])


if __name__ == "__main__":
    unittest.main()
