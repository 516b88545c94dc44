"""The words of stage 1: promises 0.1, 0.5, 0.8 and 0.9 as far as these functions tell them."""

import unittest

from lengthstell.base import words
from lengthstell.base.words import are_names, is_integer, is_lot, is_name, is_pair, is_space
from tests.examples import FOUR, LONG, LONGEST, TOO_LONG
from tests.refusals import WRONG, nested, told

JUDGES = (is_integer, is_name, are_names, is_lot, is_pair, is_space)


class WordsTest(unittest.TestCase):

    def test_constants(self):
        self.assertEqual((words.MAX_DIGITS, words.MAX_LETTERS), (2000, 4))

    def test_example(self):
        found = [
            is_integer(-7), is_integer(True), is_name("abcd"), is_name("ab1"),
            are_names(("b", "a", "b")), is_lot(("a", "b", "b")), is_pair(("a", "c")),
            is_pair(("c", "a")), is_space(2),
        ]
        self.assertEqual(found, [True, False, True, False, True, False, True, False, True])

    def test_digits(self):
        for number in (0, 1, -1, 10 ** 600, LONG, LONGEST, 2 ** 6000, 2 ** 6643):
            self.assertIs(is_integer(number), True)
            self.assertIs(is_integer(-number), True)
        for number in (TOO_LONG, TOO_LONG + 1, 10 ** 2999, 2 ** 6644, 10 ** 3000 - 1):
            self.assertIs(is_integer(number), False)
            self.assertIs(is_integer(-number), False)
        for digits in range(1990, 2001):
            self.assertIs(is_integer(10 ** digits - 1), True)

    def test_no_integers(self):
        for value in (None, True, False, "1", (1,), [1], {}, {1: 1}, FOUR):
            self.assertIs(is_integer(value), False)

    def test_names(self):
        for value in ("a", "z", "ab", "abc", "abcd", "zzzz"):
            self.assertIs(is_name(value), True)
        wrong = ("", "abcde", "A", "aB", "a1", "a ", " a", "a-b", "\n", "a\n", "`", "{", "a" * 3000,
                 None, True, 1, ("a",), ["a"], {"a": 1}, FOUR)
        for value in wrong:
            self.assertIs(is_name(value), False)

    def test_tuples_of_names(self):
        for value in ((), ("a",), ("b", "a"), ("a", "a"), ("zz", "abcd", "a")):
            self.assertIs(are_names(value), True)
        for value in (["a"], "ab", ("a", 1), ("a", None), ("a", ("b",)), ("abcde",), {"a": 1}, None, FOUR):
            self.assertIs(are_names(value), False)

    def test_lots(self):
        for value in ((), ("a",), ("a", "b"), ("a", "aa", "ab", "b"), tuple("abcdefghij")):
            self.assertIs(is_lot(value), True)
        for value in (("b", "a"), ("a", "a"), ("a", "b", "b"), ["a", "b"], ("a", 1), "ab", {}, None, FOUR):
            self.assertIs(is_lot(value), False)

    def test_pairs(self):
        for value in (("a", "b"), ("a", "aa"), ("abcd", "b")):
            self.assertIs(is_pair(value), True)
        wrong = ((), ("a",), ("b", "a"), ("a", "a"), ("a", "b", "c"), ["a", "b"], "ab", ("a", True), FOUR)
        for value in wrong:
            self.assertIs(is_pair(value), False)

    def test_spaces(self):
        self.assertEqual([is_space(1), is_space(2)], [True, True])
        for value in (0, 3, -1, True, False, "1", (1,), None, TOO_LONG, -TOO_LONG, FOUR):
            self.assertIs(is_space(value), False)

    def test_judges_accept_every_value(self):
        for judge in JUDGES:
            for value in WRONG + (nested(1, 10),):
                before = told(value)
                found = judge(value)
                self.assertIs(found, judge(value=value))
                self.assertIsInstance(found, bool)
                self.assertEqual(told(value), before)


if __name__ == "__main__":
    unittest.main()
