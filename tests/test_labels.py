"""Labels and words: what is one, and which label comes before which."""

import unittest

from codemend.labels import is_label, is_word, label_before

SMALL_LETTERS = "abcdefghijklmnopqrstuvwxyz"
GREAT_LETTERS = SMALL_LETTERS.upper()
FIGURES = "0123456789"
# Figures and letters of other scripts are among these: Python's own tests of signs would take some of them.
OTHER_SIGNS = list(" \n\t\r\0.,;:-_+/\\%#'\"()[]{}`@^|~!?$&*<>=") + [
    "\u00e9", "\u00df", "\u00b2", "\u00bd", "\u0663", "\uff11", "\uff41", "\u03b1", "\u00a0", "\u2028",
]
OTHER_KINDS = [
    None, True, False, 0, 1, 3, -1, 10**20, 1.0, [], ["1"], ["a"], (), ("1",), ("a",), ("1", "a"),
    {}, {"1": "1"}, {"a": 1}, {"1"}, b"1", b"a", object(), str, len,
]


class IsLabel(unittest.TestCase):
    def check(self, expected, things):
        for thing in things:
            with self.subTest(thing=thing):
                self.assertIs(is_label(thing), expected)

    def test_numbers_of_one_to_nine_figures(self):
        self.check(True, [str(number) for number in range(1, 120)])
        self.check(True, ["1" * length for length in range(1, 10)])
        self.check(True, ["9" * length for length in range(1, 10)])
        self.check(True, ["100000000", "123456789", "999999998", "999999999"])

    def test_ten_figures_and_more_are_too_many(self):
        self.check(False, ["1000000000", "1234567890", "9999999999", "1" * 12, "1" * 13, "1" * 5000])
        self.check(False, ["1000000000a", "1234567890abc"])

    def test_noughts_within_and_behind_are_figures_like_others(self):
        self.check(True, ["10", "100", "101", "1001a", "900000000", "20zz"])

    def test_a_nought_ahead_is_wrong(self):
        self.check(False, ["0", "00", "01", "001", "012", "0a", "00a", "01a", "0abc", "012345678", "000000000"])

    def test_none_to_three_letters(self):
        self.check(True, ["3", "3a", "12bc", "7abc", "1zzz", "5aaa", "999999999zzz", "123456789abc"])
        self.check(True, ["4" + letter for letter in SMALL_LETTERS])
        self.check(True, ["4x" + letter for letter in SMALL_LETTERS])
        self.check(True, ["4xy" + letter for letter in SMALL_LETTERS])

    def test_four_letters_are_too_many(self):
        self.check(False, ["1aaaa", "1abcd", "12wxyz", "999999999abcd", "1" + "a" * 5000])

    def test_great_letters(self):
        self.check(False, ["1" + letter for letter in GREAT_LETTERS])
        self.check(False, ["1aB", "1Ab", "1abC", "1aBc", "1Abc", "12BC", "A", "A1"])

    def test_figures_behind_letters(self):
        self.check(False, ["1a1", "1a0", "12bc3", "1a2b", "a1", "a1a", "1ab9", "3a3a3a"])

    def test_letters_alone(self):
        self.check(False, list(SMALL_LETTERS) + ["ab", "abc", "abcd"])

    def test_no_signs(self):
        self.check(False, [""])

    def test_other_signs_at_any_spot(self):
        self.check(False, OTHER_SIGNS)
        for good in ["1", "12", "3a", "12bc", "7abc"]:
            for spot in range(len(good) + 1):
                self.check(False, [good[:spot] + sign + good[spot:] for sign in OTHER_SIGNS])

    def test_other_signs_in_the_place_of_one(self):
        for good in ["12", "3a", "12bc"]:
            for spot in range(len(good)):
                self.check(False, [good[:spot] + sign + good[spot + 1:] for sign in OTHER_SIGNS])

    def test_blanks_and_line_feeds(self):
        self.check(False, [" ", "\n", " 1", "1 ", "1 a", "3\n", "\n3", "3a\n", "12bc\n", "3a ", " 3a", "1\n2", "1\t"])

    def test_signs_of_numbers(self):
        self.check(False, ["+1", "-1", "1_0", "1.0", "1e5x9", "0x1", "1-", "--1"])

    def test_other_kinds(self):
        self.check(False, OTHER_KINDS)


class IsWord(unittest.TestCase):
    def check(self, expected, things):
        for thing in things:
            with self.subTest(thing=thing):
                self.assertIs(is_word(thing), expected)

    def test_one_sign(self):
        self.check(True, list(SMALL_LETTERS + FIGURES))

    def test_one_to_twelve_signs(self):
        self.check(True, ["a" * length for length in range(1, 13)])
        self.check(True, ["0" * length for length in range(1, 13)])
        self.check(True, ["abcdefghijkl", "mnopqrstuvwx", "yz0123456789", "012345678901"])

    def test_thirteen_signs_and_more_are_too_many(self):
        self.check(False, ["a" * 13, "0" * 13, "abcdefghijklm", "0123456789abc", "a" * 14, "a" * 5000])

    def test_no_signs(self):
        self.check(False, [""])

    def test_letters_and_figures_mixed(self):
        self.check(True, ["a1", "1a", "a1b2c3", "0a", "00", "07", "x0x", "3a", "12bc", "2nd", "9z9z9z9z9z9z"])

    def test_great_letters_and_other_signs_at_any_spot(self):
        for sign in list(GREAT_LETTERS) + OTHER_SIGNS:
            self.check(False, [sign, sign + "bc", "a" + sign + "c", "ab" + sign, "a1" + sign + "1a", sign + "1"])
            self.check(False, [sign + "b" * 11, "b" * 5 + sign + "b" * 6, "b" * 11 + sign])

    def test_blanks_and_line_feeds(self):
        self.check(False, [" ", "\n", "a b", " ab", "ab ", "ab\n", "\nab", "a\nb", "ab\n\n", "a" * 12 + "\n"])

    def test_other_kinds(self):
        self.check(False, OTHER_KINDS)


class LabelBefore(unittest.TestCase):
    IN_ORDER = [
        "1", "1a", "1aa", "1aaa", "1aab", "1ab", "1aba", "1b", "1ba", "1z", "1za", "1zz", "1zzz",
        "2", "2a", "2aa", "2b", "3", "9", "9zzz", "10", "10a", "10aa", "10b", "11", "12bc", "12c",
        "19", "20", "99", "100", "100a", "101", "110", "999", "1000", "99999999", "99999999z",
        "100000000", "123456789", "999999998zzz", "999999999", "999999999a", "999999999zzz",
    ]

    def check(self, expected, one, other):
        with self.subTest(one=one, other=other):
            self.assertIs(label_before(one, other), expected)

    def test_the_lesser_number_comes_first(self):
        for one, other in [("2", "10"), ("1", "2"), ("9", "10"), ("99", "100"), ("2", "1000"), ("2zzz", "3"),
                           ("2b", "10a"), ("9z", "10")]:
            self.check(True, one, other)
            self.check(False, other, one)

    def test_by_letters_where_the_number_is_the_same(self):
        for one, other in [("3", "3a"), ("3a", "3aa"), ("3aa", "3b"), ("3", "3b"), ("3a", "3b"), ("12bc", "12c"),
                           ("3az", "3b"), ("3abc", "3abd"), ("3y", "3z")]:
            self.check(True, one, other)
            self.check(False, other, one)

    def test_a_label_and_itself(self):
        for label in self.IN_ORDER:
            self.check(False, label, label)

    def test_every_two_of_many(self):
        for spot, one in enumerate(self.IN_ORDER):
            for other_spot, other in enumerate(self.IN_ORDER):
                self.check(spot < other_spot, one, other)


if __name__ == "__main__":
    unittest.main()
