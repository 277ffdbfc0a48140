"""The words of a row, read one by one."""

import unittest

from books import spelled
from codemend.errors import NoRow
from codemend.words import (
    change_of, day_in, days_of, deed_of, deeds_of, label_in, name_in, number_in, parts_of, place_in, some_words_in,
    told_row, told_rows, words_in,
)


class Read(unittest.TestCase):
    def check(self, reader, good, wrong):
        for word, told in good:
            with self.subTest(word=word):
                self.assertEqual(reader(word), told)
        for word in wrong:
            with self.subTest(word=word):
                with self.assertRaises(NoRow):
                    reader(word)

    def test_days(self):
        good = [("0", 0), ("1", 1), ("10", 10), ("-1", -1), ("-10", -10), ("999999999", 999999999)]
        good += [("-999999999", -999999999)]
        wrong = ["", "-", "00", "01", "-0", "-01", "--1", "+1", "+0", "1000000000", "-1000000000", "1-", "1a", "a", "1.0",
                 "1_0", " 1", "1 ", "1\n", "\t1", "0x1", "1e1", "\u0661", "\u00b2", "-\u0661", "\uff11", "\u2212" "1"]
        self.check(day_in, good, wrong)

    def test_numbers(self):
        good = [("0", 0), ("1", 1), ("10", 10), ("999999999", 999999999)]
        wrong = ["", "-", "-0", "-1", "00", "01", "+1", "1000000000", "1a", "1_0", "1\n", "\u0661", "\u00b2"]
        self.check(number_in, good, wrong)

    def test_places(self):
        good = [(".", ()), ("1", ("1",)), ("1.1a", ("1", "1a")), ("999999999zzz", ("999999999zzz",))]
        good += [("1.2.3.4.5.6.7.8", tuple("12345678"))]
        wrong = ["", "..", "1.", ".1", "1..2", "0", "01", "a", "1A", "1abcd", "1000000000", "1.0", "1.2.3.4.5.6.7.8.9",
                 "1.2.3.4.5.6.7.8.9.1", "1\n", "-1", "1_2", "1,2"]
        self.check(place_in, good, wrong)

    def test_labels(self):
        good = [("1", "1"), ("3a", "3a"), ("12bc", "12bc"), ("999999999zzz", "999999999zzz")]
        self.check(label_in, good, ["", ".", "0", "01", "a", "1A", "1abcd", "1000000000", "1.1", "1a1", "-1", "1\n"])

    def test_words(self):
        good = [("a", ("a",)), ("a_b", ("a", "b")), ("a_a_a", ("a", "a", "a")), ("0_9z", ("0", "9z"))]
        good += [("abcdefghijkl", ("abcdefghijkl",)), ("1_abcdefghijkl", ("1", "abcdefghijkl"))]
        wrong = ["", "__", "a_", "_a", "a__b", "___", "A", "a_B", "abcdefghijklm", "a_abcdefghijklm", "a.b", "a-b", "a\n",
                 "\u00e4", "a;"]
        self.check(words_in, good + [("_", ())], wrong)
        self.check(some_words_in, good, wrong + ["_"])

    def test_names_are_any_words(self):
        for word in ["a", "", "A", "abcdefghi", ";", "1"]:
            self.assertEqual(name_in(word), word)

    def test_days_that_may_be_left_out(self):
        self.assertEqual(days_of(["1"], 1), [1, None, None])
        self.assertEqual(days_of(["1", "-2"], 1), [1, -2, None])
        self.assertEqual(days_of(["1", "-2", "3"], 1), [1, -2, 3])
        self.assertEqual(days_of(["1", "0"], 2), [1, 0, None, None])
        self.assertEqual(days_of(["1", "0", "7", "8"], 2), [1, 0, 7, 8])
        for words, needed in [([], 1), (["1"] * 4, 1), (["1"], 2), (["1"] * 5, 2), (["1", ""], 1), (["x"], 1)]:
            with self.assertRaises(NoRow):
                days_of(words, needed)

    def test_as_many_words_as_readers(self):
        self.assertEqual(parts_of(["1", "1"], (day_in, place_in)), [1, ("1",)])
        self.assertEqual(parts_of([], ()), [])
        for words in [[], ["1"], ["1", "1", "1"], ["1", "x"], ["x", "1"]]:
            with self.assertRaises(NoRow):
                parts_of(words, (day_in, place_in))


class ChangesAndDeeds(unittest.TestCase):
    def test_changes(self):
        for row, told in [
            ("swap 1 a_b c", ("Swap", {"place": ("1",), "old": ("a", "b"), "new": ("c",)})),
            ("swap . a _", ("Swap", {"place": (), "old": ("a",), "new": ()})),
            ("read 1.2 a", ("Read", {"place": ("1", "2"), "words": ("a",)})),
            ("read . _", ("Read", {"place": (), "words": ()})),
            ("in . 3a a_b", ("PutIn", {"place": (), "node": ("3a", ("a", "b"), ())})),
            ("in 1 2 _", ("PutIn", {"place": ("1",), "node": ("2", (), ())})),
            ("out 1.2", ("LeaveOut", {"place": ("1", "2")})),
            ("out .", ("LeaveOut", {"place": ()})),
            ("anew .", ("Anew", {"place": ()})),
        ]:
            with self.subTest(row=row):
                self.assertEqual(spelled(change_of(row.split(" "))), told)

    def test_deeds(self):
        change = ("LeaveOut", {"place": ("1",)})
        for row, told in [
            ("5 out 1", ("change", 5, change, None)), ("-5 since 0 out 1", ("change", -5, change, 0)),
            ("0 since -7 out 1", ("change", 0, change, -7)), ("later ab 0 -3", ("later", "ab", 0, -3)),
            ("instead ab 12 out 1", ("instead", "ab", 12, change)), ("drop ab 999999999", ("drop", "ab", 999999999)),
            ("drop  0", ("drop", "", 0)), ("drop drop 0", ("drop", "drop", 0)), ("later since 1 2", ("later", "since", 1, 2)),
        ]:
            with self.subTest(row=row):
                self.assertEqual(spelled(deed_of(row.split(" "))), told)

    def test_several_deeds(self):
        self.assertEqual(deeds_of([]), [])
        self.assertEqual(deeds_of("drop a 0".split(" ")), [("drop", "a", 0)])
        self.assertEqual(deeds_of("drop a 0; later b 1 2; drop c 3".split(" ")),
                         [("drop", "a", 0), ("later", "b", 1, 2), ("drop", "c", 3)])


class Written(unittest.TestCase):
    def test_rows(self):
        self.assertEqual(told_row(("gone", "ab", 0)), "gone ab 0")
        self.assertEqual(told_row(("new", "ab", 12, ("1", "2a"))), "new ab 12 1.2a")
        self.assertEqual(told_row(("first", (), 3)), "first . 3")
        self.assertEqual(told_rows([]), "")
        self.assertEqual(told_rows([("a", 0, "done")]), "a 0 done")
        self.assertEqual(told_rows([("a", 0, "done"), ("b", 1, "place")]), "a 0 done; b 1 place")


if __name__ == "__main__":
    unittest.main()
