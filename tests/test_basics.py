"""[2]: INTEGERS, COUNTS, signs and texts."""

import unittest

from flowyard.basics import is_count, is_integer, is_sign, is_text
from helper import Cases, odd_values

STRINGS = ["", "0", "1", "01", "00", "2", "-", "0 ", " 1", "O", "0\n", "1x", "x1", "101", "1 1", "0a0", "-1"]
INTEGERS = [0, 1, 2, -1, -2, 9, 10 ** 29, -10 ** 29]
OTHERS = [value for value in odd_values() if not isinstance(value, str)] + [[], (), [0], ("0",), [1], ["1"]]


class Basics(Cases):
    def told(self, question, rights, wrongs):
        for value in rights:
            with self.subTest(value=repr(value)):
                self.assertIs(question(value), True)
                self.assertIs(question(value=value), True)
        for value in wrongs:
            with self.subTest(value=repr(value)):
                self.assertIs(question(value), False)

    def test_integers_are_ints_but_bools(self):
        self.told(is_integer, INTEGERS, STRINGS + OTHERS)

    def test_counts_are_integers_from_0_on(self):
        self.told(is_count, [0, 1, 2, 9, 10 ** 29], STRINGS + OTHERS + [-1, -2, -10 ** 29])

    def test_signs_are_0_and_1(self):
        self.told(is_sign, ["0", "1"], [text for text in STRINGS if text not in ("0", "1")] + INTEGERS + OTHERS)

    def test_texts_are_strings_of_signs_perhaps_empty(self):
        texts = ["", "0", "1", "01", "00", "101", "0110" * 500]
        self.told(is_text, texts, [text for text in STRINGS if text not in texts] + INTEGERS + OTHERS)

    def test_no_bool_is_an_integer_or_a_count(self):
        for value in (True, False):
            self.assertIs(is_integer(value), False)
            self.assertIs(is_count(value), False)


if __name__ == "__main__":
    unittest.main()
