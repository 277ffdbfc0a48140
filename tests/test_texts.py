"""Texts: trees and places written, and read; and what is none."""

import unittest

from codemend.errors import MendError, NoPlace, NoText
from codemend.texts import place_text, read, read_place, shown
from codemend.trees import is_tree, node_at, places
from samples import ALONE, SAMPLE_PLACES, bushy_tree, chain_tree, no_texts, sample

EXAMPLE = ". all\n1 one two\n1.1a three\n2"
EXAMPLE_TREE = ("", ("all",), (("1", ("one", "two"), (("1a", ("three",), ()),)), ("2", (), ())))

SAMPLE_TEXT = "\n".join([
    ". all of it",
    "1 one",
    "1.1 inner one",
    "1.1a",
    "1.1a.2 deepest",
    "1.2 inner two",
    "2",
    "2.1 inner one",
    "2.10 ten",
    "2a two a",
    "10 ten ten",
    "10.2",
])

WRITTEN_PLACES = [
    ((), "."),
    (("1",), "1"),
    (("3a",), "3a"),
    (("12bc",), "12bc"),
    (("999999999zzz",), "999999999zzz"),
    (("1", "1a"), "1.1a"),
    (("10", "2"), "10.2"),
    (("1", "1", "1"), "1.1.1"),
    (("1", "2", "3", "4", "5", "6", "7", "8"), "1.2.3.4.5.6.7.8"),
    (("1a", "2b", "3c", "4dd", "5eee", "60", "700", "999999999abc"), "1a.2b.3c.4dd.5eee.60.700.999999999abc"),
]

WRONG_LABELS = [
    "0", "01", "00", "a", "a1", "1A", "1abcd", "1a1", "1000000000", "-1", "+1", "1_0", "1,2", "1-2", "\u0661", "\u00b2",
    "1\u00e4", "1\t", "1\r", "\x00", "*", "/",
]


class PlaceText(unittest.TestCase):
    def test_written(self):
        for place, text in WRITTEN_PLACES:
            with self.subTest(text=text):
                self.assertEqual(place_text(place), text)

    def test_there_and_back(self):
        for place in SAMPLE_PLACES + [place for place, text in WRITTEN_PLACES]:
            with self.subTest(place=place):
                self.assertEqual(read_place(place_text(place)), place)

    def test_each_place_of_a_tree_has_a_text_of_its_own(self):
        self.assertEqual(len({place_text(place) for place in SAMPLE_PLACES}), len(SAMPLE_PLACES))


class ReadPlace(unittest.TestCase):
    def assert_none(self, thing, said=""):
        with self.subTest(said=said):
            with self.assertRaises(NoPlace) as caught:
                read_place(thing)
            self.assertIsNone(caught.exception.place)
            self.assertIsInstance(caught.exception, MendError)

    def test_read(self):
        for place, text in WRITTEN_PLACES:
            with self.subTest(text=text):
                told = read_place(text)
                self.assertIs(type(told), tuple)
                self.assertEqual(told, place)

    def test_the_text_without_signs(self):
        self.assert_none("")

    def test_a_point_ahead_behind_or_twice(self):
        for text in ["..", "...", ".1", "1.", ".1.2", "1.2.", "1..2", "1...2", ".1.", "..1", "1..", ". .", "./"]:
            self.assert_none(text, text)

    def test_a_wrong_label_anywhere(self):
        for label in WRONG_LABELS:
            for text in [label, label + ".1", "1." + label, "1." + label + ".2", "1.2." + label]:
                self.assert_none(text, text)

    def test_blanks_and_line_feeds(self):
        for sign in [" ", "\n", "\t", "\r"]:
            for text in [sign, "." + sign, sign + ".", "1" + sign, sign + "1", "1" + sign + "2", "1." + sign + "2",
                         "1" + sign + ".2", "1.2" + sign, sign + "1.2", "1." + sign]:
                self.assert_none(text, repr(text))

    def test_words_behind_a_place(self):
        for text in [". all", "1 one", "1.1a three", "1.1a\n2"]:
            self.assert_none(text, text)

    def test_nine_labels_and_more(self):
        for length in (9, 10, 20, 5000):
            self.assert_none(".".join(["1"] * length), length)
        self.assert_none("1.2.3.4.5.6.7.8.9a", "with letters")

    def test_other_kinds(self):
        for number, thing in enumerate(no_texts()):
            self.assert_none(thing, number)


class Shown(unittest.TestCase):
    def test_the_example(self):
        self.assertEqual(shown(EXAMPLE_TREE), EXAMPLE)

    def test_the_sample(self):
        self.assertEqual(shown(sample()), SAMPLE_TEXT)

    def test_the_tree_alone(self):
        self.assertEqual(shown(ALONE), ".")
        self.assertEqual(shown(("", ("some", "words"), ())), ". some words")

    def test_kids_whose_labels_rise_otherwise_than_as_texts(self):
        tree = ("", (), (("2", (), ()), ("2a", ("x",), ()), ("10", (), ())))
        self.assertEqual(shown(tree), ".\n2\n2a x\n10")

    def test_a_place_of_eight_labels(self):
        rows = ["."] + [".".join(["1"] * length) for length in range(1, 8)] + ["1.1.1.1.1.1.1.1 end"]
        self.assertEqual(shown(chain_tree(9)), "\n".join(rows))

    def test_words_that_look_like_places(self):
        self.assertEqual(shown(("", ("1", "2a"), (("1", ("1", "1"), ()),))), ". 1 2a\n1 1 1")

    def test_the_tree_is_not_changed(self):
        tree = sample()
        shown(tree)
        self.assertEqual(tree, sample())


def small_trees():
    """All trees with kids of these labels, one beneath another at the most, with and without words."""
    leaves = [None, (), ("w",), ("1", "1")]
    trees = []
    for one in leaves:
        for inner in leaves:
            for other in leaves:
                kids = []
                if one is not None:
                    kids.append(("2", one, () if inner is None else (("2", inner, ()),)))
                if other is not None:
                    kids.append(("10", other, ()))
                trees.append(("", ("all",), tuple(kids)))
    return trees


class Read(unittest.TestCase):
    def assert_none(self, thing, said=""):
        with self.subTest(said=said):
            with self.assertRaises(NoText) as caught:
                read(thing)
            self.assertIsInstance(caught.exception, MendError)

    def assert_no_row_among_others(self, row):
        for text in [row, ".\n" + row, ".\n1\n" + row + "\n3", row + "\n.\n1", ". all\n1 one\n" + row]:
            self.assert_none(text, repr(text))

    def test_the_example(self):
        self.assertEqual(read(EXAMPLE), EXAMPLE_TREE)

    def test_the_sample(self):
        self.assertEqual(read(SAMPLE_TEXT), sample())

    def test_the_tree_alone(self):
        self.assertEqual(read("."), ALONE)
        self.assertEqual(read(". some words"), ("", ("some", "words"), ()))

    def test_tuples_all_the_way_down(self):
        self.assertIs(is_tree(read(SAMPLE_TEXT)), True)

    def test_kids_whose_labels_rise_otherwise_than_as_texts(self):
        self.assertEqual(read(".\n2\n2a x\n10"), ("", (), (("2", (), ()), ("2a", ("x",), ()), ("10", (), ()))))
        self.assert_none(".\n10\n2\n2a")
        self.assert_none(".\n2\n10\n2a")
        self.assert_none(".\n2a\n2\n10")

    def test_words_that_look_like_places(self):
        self.assertEqual(read(". 1 2a\n1 1 1"), ("", ("1", "2a"), (("1", ("1", "1"), ()),)))

    def test_there_and_back(self):
        trees = small_trees() + [bushy_tree(levels, spot) for levels in range(1, 10) for spot in (1, 2, 3)]
        trees += [("",) + node_at(sample(), place)[1:] for place in places(sample())]
        trees.append(("", ("abcdefghijkl",) * 400, tuple((str(number), ("w",), ()) for number in range(1, 400))))
        for number, tree in enumerate(trees):
            with self.subTest(number=number):
                self.assertEqual(read(shown(tree)), tree)
                self.assertEqual(shown(read(shown(tree))), shown(tree))

    def test_rows_exchanged(self):
        for text in [EXAMPLE, SAMPLE_TEXT, shown(chain_tree(9)), shown(bushy_tree(5, 2))]:
            rows = text.split("\n")
            for one in range(len(rows)):
                for other in range(one):
                    mixed = list(rows)
                    mixed[one] = rows[other]
                    mixed[other] = rows[one]
                    self.assert_none("\n".join(mixed), (one, other))

    def test_a_row_moved_elsewhere(self):
        rows = SAMPLE_TEXT.split("\n")
        for one in range(len(rows)):
            for spot in range(len(rows)):
                if spot != one:
                    left = rows[:one] + rows[one + 1:]
                    self.assert_none("\n".join(left[:spot] + [rows[one]] + left[spot:]), (one, spot))

    def test_a_row_told_twice(self):
        rows = SAMPLE_TEXT.split("\n")
        for one in range(len(rows)):
            for spot in range(len(rows) + 1):
                self.assert_none("\n".join(rows[:spot] + [rows[one]] + rows[spot:]), (one, spot))
                bare = rows[one].split(" ")[0]
                self.assert_none("\n".join(rows[:spot] + [bare] + rows[spot:]), ("bare", one, spot))
        self.assert_none(".\n.")
        self.assert_none(". all\n. all")

    def test_a_row_left_out_with_others_beneath_it(self):
        rows = SAMPLE_TEXT.split("\n")
        for spot, place in enumerate(SAMPLE_PLACES):
            text = "\n".join(rows[:spot] + rows[spot + 1:])
            if node_at(sample(), place)[2] == ():
                self.assertEqual(shown(read(text)), text)
            else:
                self.assert_none(text, place)

    def test_a_place_whose_parent_is_not_there(self):
        for text in [".\n1.1", ".\n1\n2.1", ".\n1\n1.1.1", ".\n1\n1.1\n2\n2.1.1", ".\n2\n1.1", ".\n1\n3.1.1\n4",
                     ".\n1.1.1.1.1.1.1.1", ".\n1\n1a.1"]:
            self.assert_none(text, text)

    def test_without_the_first_row(self):
        for text in ["1", "1 one", "1\n2", "1\n1.1", "1.1", "2\n."]:
            self.assert_none(text, text)

    def test_a_blank_more(self):
        for text in [EXAMPLE, SAMPLE_TEXT, ".", ". all", ".\n1"]:
            for spot in range(len(text) + 1):
                # Elsewhere than at a row's ends or beside a blank it would part a word or a label, perhaps rightly.
                if spot in (0, len(text)) or text[spot - 1] in " \n" or text[spot] in " \n":
                    self.assert_none(text[:spot] + " " + text[spot:], (text, spot))

    def test_blanks_by_hand(self):
        for text in [" .", ". ", ".  all", ". all ", " . all", ". all  of", ".\n 1", ".\n1 ", ".\n1  one", " ", "  ",
                     ".\t", ".\tall", ".\n1. 1"]:
            self.assert_none(text, repr(text))

    def test_a_row_without_signs(self):
        rows = EXAMPLE.split("\n")
        for spot in range(len(rows) + 1):
            self.assert_none("\n".join(rows[:spot] + [""] + rows[spot:]), spot)

    def test_line_feeds_and_their_like(self):
        for text in [".\n", "\n.", ". all\n", EXAMPLE + "\n", "\n" + EXAMPLE, EXAMPLE + "\n\n", "\n", "\n\n", ".\r",
                     EXAMPLE.replace("\n", "\r\n"), EXAMPLE.replace("\n", "\r"), EXAMPLE.replace("\n", "\x0b"),
                     EXAMPLE.replace("\n", "\u2028"), EXAMPLE.replace("\n", ""), EXAMPLE.replace("\n", "; ")]:
            self.assert_none(text, repr(text))

    def test_a_word_that_is_none(self):
        for word in ["Word", "abcdefghijklm", "a_b", "a.b", ".", "a-b", "\u00e9", "\u0661", "a\t", "*", "\x00"]:
            for text in [". " + word, ". all " + word, ". " + word + " all", ".\n1 " + word,
                         ".\n1 one " + word + "\n2"]:
                self.assert_none(text, repr(text))

    def test_a_label_that_is_none(self):
        for label in WRONG_LABELS:
            self.assert_no_row_among_others(label)
            self.assert_no_row_among_others(label + " word")
            self.assert_no_row_among_others("1." + label)
            self.assert_none(".\n1\n1." + label, label)
            self.assert_none(".\n" + label + "\n" + label + ".1", label)

    def test_points_too_many(self):
        for row in ["..", ".1", "1.", "1..1", "...", ".1.", ". .", "1. one", ".1 one"]:
            self.assert_no_row_among_others(row)

    def test_a_place_of_nine_labels(self):
        text = shown(chain_tree(9))
        self.assertEqual(read(text), chain_tree(9))
        self.assert_none(text + "\n1.1.1.1.1.1.1.1.1", "beneath one of eight")
        self.assert_none(shown(chain_tree(10)), "ten deep")
        self.assert_none(shown(chain_tree(300)), "far deeper")
        self.assert_none(".\n" + ".".join(["1"] * 9), "alone")

    def test_the_text_without_signs(self):
        self.assert_none("")

    def test_other_kinds(self):
        for number, thing in enumerate(no_texts()):
            self.assert_none(thing, number)


if __name__ == "__main__":
    unittest.main()
