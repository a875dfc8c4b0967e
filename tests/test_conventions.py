"""The conventions of point 3: integers, names, pairs and "ascending"."""

import unittest

from fromwithin.conventions import is_ascending, is_integer, is_name, is_pair


class ConventionsTest(unittest.TestCase):
    def test_integers(self):
        for value in (0, 1, -1, 8, 10 ** 59, -(10 ** 59)):
            self.assertIs(is_integer(value), True)
        for value in (True, False, None, "", "1", (), (1,), [1], {1: 1}):
            self.assertIs(is_integer(value), False)

    def test_names(self):
        for value in ("a", "z", "ann", "abcdefgh", "zzzzzzzz", "true", "none"):
            self.assertIs(is_name(value), True, value)
        for value in (
            "", "abcdefghi", "a" * 4000, "Ann", "aNn", "anN", "ANN", "ann1", "1ann", "1", "an n", " ann", "ann ", " ",
            "an-n", "ann_", "`", "{", "a~", "ann\n", "\n", "@", "[", "\u00e9", "a\u00df", "\u0430",
            None, True, False, 0, 3, (), ("a",), ("a", "n"), [], ["a"], {}, {"a": "n"}, b"ann",
        ):
            self.assertIs(is_name(value), False, value)

    def test_pairs(self):
        for value in ((0, 1), (None, None), ("ann", 0), ((), ())):
            self.assertIs(is_pair(value), True)
        for value in ((), (0,), (0, 1, 2), [0, 1], "ab", {0: 1, 1: 2}, None, 2, True):
            self.assertIs(is_pair(value), False)

    def test_ascending(self):
        for sequence in ((), (3,), (0, 1, 5), ((0, 1), (0, 2), (1, 2)), ("ann", "ben")):
            self.assertIs(is_ascending(sequence), True)
        for sequence in ((1, 1), (0, 2, 1), (1, 2, 0), ((0, 2), (0, 1)), ((0, 1), (0, 1)), ("ben", "ann")):
            self.assertIs(is_ascending(sequence), False)


if __name__ == "__main__":
    unittest.main()
