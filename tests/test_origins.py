"""From where each word of a day's text comes."""

import random
import unittest

from codemend.acts import Book
from codemend.changes import Anew, LeaveOut, PutIn, Read, Swap
from codemend.errors import MendError, NoPlace
from codemend.origins import origins
from codemend.telling import story, text_of
from codemend.trees import node_at, places
from books import LABELS, book_of, chance_book, kept, one_act
from samples import ALONE, MISSING_PLACES, SAMPLE_PLACES, sample


def tree_of(*words):
    return ("", words, ())


def first(place, *spots):
    return [("first", place, i) for i in spots]


def by(number, place, *spots):
    """Words of a change of the act a."""
    return [("by", "a", number, place, i) for i in spots]


class Checked(unittest.TestCase):
    def check(self, tree, changes, place, words, told):
        """Of a book with the changes on the days 1, 2 and so on, asked of the last day."""
        book = one_act(tree, [(day, change) for day, change in enumerate(changes, start=1)])
        before = kept(book)
        day = len(changes)
        with self.subTest(place=place, words=words):
            # So that a mistaken test is seen: these are the words that are asked of.
            self.assertEqual(node_at(text_of(book, day), place)[1], tuple(words))
            for _ in range(2):
                self.assertEqual(origins(book, place, day), told)
            self.assertEqual(kept(book), before)


class FirstTree(Checked):
    def test_no_acts(self):
        for place in SAMPLE_PLACES:
            words = node_at(sample(), place)[1]
            self.check(sample(), [], place, words, first(place, *range(len(words))))
        self.assertEqual(origins(Book(sample()), (), 0), [("first", (), 0), ("first", (), 1), ("first", (), 2)])

    def test_a_place_without_words(self):
        self.check(ALONE, [], (), (), [])
        self.check(sample(), [], ("2",), (), [])
        self.check(sample(), [Read(("1",), ())], ("1",), (), [])
        self.check(sample(), [Swap(("1",), ("one",), ())], ("1",), (), [])
        self.check(ALONE, [PutIn((), ("1", (), ()))], ("1",), (), [])
        self.assertIs(type(origins(Book(ALONE), (), 0)), list)

    def test_the_same_word_many_times(self):
        self.check(tree_of("a", "a", "a"), [], (), ("a", "a", "a"), first((), 0, 1, 2))
        self.check(sample(), [], ("10",), ("ten", "ten"), first(("10",), 0, 1))

    def test_many_words(self):
        words = ("w",) * 400
        self.check(tree_of(*words), [], (), words, first((), *range(400)))

    def test_changes_of_other_places(self):
        changes = [
            Read((), ("x",)), Read(("1", "1"), ("x",)), Swap(("2", "1"), ("one",), ("x",)),
            PutIn(("1",), ("7", ("x",), ())), LeaveOut(("1", "1a")), Anew(("2",)), LeaveOut(("2a",)),
            PutIn((), ("1a", ("x",), ())),
        ]
        self.check(sample(), changes, ("1",), ("one",), first(("1",), 0))
        self.check(sample(), changes, ("1", "2"), ("inner", "two"), first(("1", "2"), 0, 1))
        self.check(sample(), changes, ("10",), ("ten", "ten"), first(("10",), 0, 1))

    def test_by_the_place_of_the_first_tree_where_it_was_numbered_anew(self):
        self.check(sample(), [Anew(())], ("3",), ("two", "a"), first(("2a",), 0, 1))
        self.check(sample(), [Anew(())], ("2",), (), [])
        self.check(sample(), [Anew(("1",))], ("1", "2", "2"), ("deepest",), first(("1", "1a", "2"), 0))
        changes = [Anew(("1",)), Anew(("1", "2"))]
        self.check(sample(), changes, ("1", "2", "1"), ("deepest",), first(("1", "1a", "2"), 0))
        # Twice, one having gone between: it stands where another one stood at first.
        changes = [LeaveOut(("1",)), Anew(()), LeaveOut(("1",)), Anew(())]
        self.check(sample(), changes, ("1",), ("two", "a"), first(("2a",), 0, 1))
        self.check(sample(), changes, ("2",), ("ten", "ten"), first(("10",), 0, 1))

    def test_kids_that_take_labels_of_one_another(self):
        tree = ("", (), (("2", ("p", "q"), ()), ("3", ("r",), ()), ("3a", ("s", "t"), ())))
        self.check(tree, [Anew(())], ("1",), ("p", "q"), first(("2",), 0, 1))
        self.check(tree, [Anew(())], ("2",), ("r",), first(("3",), 0))
        self.check(tree, [Anew(())], ("3",), ("s", "t"), first(("3a",), 0, 1))


class Reading(Checked):
    def test_all_words_are_new(self):
        self.check(sample(), [Read((), ("x", "y"))], (), ("x", "y"), by(0, (), 0, 1))
        self.check(sample(), [Read(("1", "1a"), ("x",))], ("1", "1a"), ("x",), by(0, ("1", "1a"), 0))

    def test_the_same_words_are_new_too(self):
        self.check(sample(), [Read((), ("all", "of", "it"))], (), ("all", "of", "it"), by(0, (), 0, 1, 2))
        self.check(sample(), [Read((), ("it", "of"))], (), ("it", "of"), by(0, (), 0, 1))

    def test_twice(self):
        self.check(ALONE, [Read((), ("x", "y")), Read((), ("x",))], (), ("x",), by(1, (), 0))
        self.check(ALONE, [Read((), ("x",)), Read((), ()), Read((), ("x",))], (), ("x",), by(2, (), 0))

    def test_by_the_place_that_the_change_names_where_it_was_numbered_anew_later(self):
        self.check(sample(), [Read(("2a",), ("x", "y")), Anew(())], ("3",), ("x", "y"), by(0, ("2a",), 0, 1))
        self.check(sample(), [Anew(()), Read(("3",), ("x", "y"))], ("3",), ("x", "y"), by(1, ("3",), 0, 1))
        changes = [Anew(()), Read(("3",), ("x", "y")), LeaveOut(("1",)), Anew(())]
        self.check(sample(), changes, ("2",), ("x", "y"), by(1, ("3",), 0, 1))


class Swapping(Checked):
    def test_at_the_begin_amid_and_at_the_end(self):
        tree = tree_of("a", "b", "c", "d")
        self.check(tree, [Swap((), ("a",), ("x", "y"))], (), "xybcd", by(0, (), 0, 1) + first((), 1, 2, 3))
        self.check(tree, [Swap((), ("a", "b"), ("x",))], (), "xcd", by(0, (), 0) + first((), 2, 3))
        self.check(tree, [Swap((), ("b",), ("x", "y"))], (), "axycd", first((), 0) + by(0, (), 0, 1) + first((), 2, 3))
        self.check(tree, [Swap((), ("b", "c"), ("x",))], (), "axd", first((), 0) + by(0, (), 0) + first((), 3))
        self.check(tree, [Swap((), ("d",), ("x", "y"))], (), "abcxy", first((), 0, 1, 2) + by(0, (), 0, 1))
        self.check(tree, [Swap((), ("c", "d"), ("x",))], (), "abx", first((), 0, 1) + by(0, (), 0))
        self.check(tree, [Swap((), ("b",), ("x",))], (), "axcd", first((), 0) + by(0, (), 0) + first((), 2, 3))

    def test_all_words(self):
        self.check(tree_of("a", "b"), [Swap((), ("a", "b"), ("x", "y", "z"))], (), "xyz", by(0, (), 0, 1, 2))
        self.check(tree_of("a"), [Swap((), ("a",), ("x",))], (), "x", by(0, (), 0))
        self.check(tree_of("a", "b"), [Swap((), ("a", "b"), ())], (), "", [])

    def test_with_no_new_words(self):
        tree = tree_of("a", "b", "c")
        self.check(tree, [Swap((), ("a",), ())], (), "bc", first((), 1, 2))
        self.check(tree, [Swap((), ("b",), ())], (), "ac", first((), 0, 2))
        self.check(tree, [Swap((), ("b", "c"), ())], (), "a", first((), 0))

    def test_with_the_same_words(self):
        tree = tree_of("a", "b", "c")
        self.check(tree, [Swap((), ("b",), ("b",))], (), "abc", first((), 0) + by(0, (), 0) + first((), 2))
        self.check(tree, [Swap((), ("a", "b", "c"), ("a", "b", "c"))], (), "abc", by(0, (), 0, 1, 2))
        # The old words stand within the new ones: these come of the change, all of them.
        self.check(tree, [Swap((), ("b",), ("b", "x", "b"))], (), "abxbc",
                   first((), 0) + by(0, (), 0, 1, 2) + first((), 2))
        self.check(tree, [Swap((), ("a", "b"), ("b", "a"))], (), "bac", by(0, (), 0, 1) + first((), 2))

    def test_words_that_stand_elsewhere_too(self):
        # By two words that stand together just once, while each of them stands elsewhere as well.
        tree = tree_of("b", "a", "a", "b", "b")
        self.check(tree, [Swap((), ("a", "b"), ("b",))], (), "babb", first((), 0, 1) + by(0, (), 0) + first((), 4))

    def test_behind_a_swap(self):
        tree = tree_of("a", "b", "c")
        one = Swap((), ("b",), ("x", "y", "z"))
        # Within its words, over their begin and end, ahead of them and behind them.
        self.check(tree, [one, Swap((), ("y",), ("n",))], (), "axnzc",
                   first((), 0) + by(0, (), 0) + by(1, (), 0) + by(0, (), 2) + first((), 2))
        self.check(tree, [one, Swap((), ("a", "x"), ("n", "m"))], (), "nmyzc",
                   by(1, (), 0, 1) + by(0, (), 1, 2) + first((), 2))
        self.check(tree, [one, Swap((), ("z", "c"), ())], (), "axy", first((), 0) + by(0, (), 0, 1))
        self.check(tree, [one, Swap((), ("a",), ())], (), "xyzc", by(0, (), 0, 1, 2) + first((), 2))
        self.check(tree, [one, Swap((), ("c",), ("c",))], (), "axyzc",
                   first((), 0) + by(0, (), 0, 1, 2) + by(1, (), 0))
        self.check(tree, [one, Swap((), ("x", "y", "z"), ("b",))], (), "abc",
                   first((), 0) + by(1, (), 0) + first((), 2))
        self.check(tree, [one, Swap((), ("y",), ()), Swap((), ("x", "z"), ("q", "q", "q"))], (), "aqqqc",
                   first((), 0) + by(2, (), 0, 1, 2) + first((), 2))

    def test_behind_a_read_and_ahead_of_one(self):
        tree = tree_of("a", "b")
        self.check(tree, [Read((), ("x", "y", "z")), Swap((), ("y",), ("n", "m"))], (), "xnmz",
                   by(0, (), 0) + by(1, (), 0, 1) + by(0, (), 2))
        self.check(tree, [Swap((), ("b",), ("x",)), Read((), ("a", "x"))], (), "ax", by(1, (), 0, 1))
        changes = [Read((), ("x", "y")), Swap((), ("x",), ("x",)), Read((), ("x", "y")), Swap((), ("y",), ("y",))]
        self.check(tree, changes, (), "xy", by(2, (), 0) + by(3, (), 0))

    def test_by_the_place_that_the_change_names_where_it_was_numbered_anew(self):
        tree = ("", (), (("2", ("a", "b", "c"), ()), ("4", ("a", "b"), ())))
        swap = Swap(("2",), ("b",), ("x",))
        self.check(tree, [swap, Anew(())], ("1",), "axc", first(("2",), 0) + by(0, ("2",), 0) + first(("2",), 2))
        changes = [swap, Anew(()), Swap(("1",), ("c",), ("y", "z"))]
        self.check(tree, changes, ("1",), "axyz", first(("2",), 0) + by(0, ("2",), 0) + by(2, ("1",), 0, 1))
        self.check(tree, changes, ("2",), "ab", first(("4",), 0, 1))
        # A change at the place 2 behind the numbering anew is one of the other place.
        self.check(tree, [Anew(()), Swap(("2",), ("b",), ("x",))], ("2",), "ax", first(("4",), 0) + by(1, ("2",), 0))
        self.check(tree, [Anew(()), Swap(("2",), ("b",), ("x",))], ("1",), "abc", first(("2",), 0, 1, 2))

    def test_one_that_does_not_fit_brings_nothing(self):
        tree = tree_of("a", "a", "b")
        for change in [Swap((), ("a",), ("x",)), Swap((), ("x",), ("a",)), Swap(("1",), ("a",), ("a",))]:
            self.check(tree, [change], (), "aab", first((), 0, 1, 2))
            self.check(tree, [change, Swap((), ("b",), ("b",))], (), "aab", first((), 0, 1) + by(1, (), 0))
        self.check(tree, [Read(("1",), ("x",))], (), "aab", first((), 0, 1, 2))


class PuttingIn(Checked):
    NODE = ("5", ("p", "q"), (("2", ("r",), (("3", ("s", "t"), ()),)), ("4", (), ())))

    def test_at_the_node_and_beneath_it(self):
        for above in [(), ("1",), ("1", "1a")]:
            change = PutIn(above, self.NODE)
            top = above + ("5",)
            self.check(sample(), [change], top, "pq", by(0, top, 0, 1))
            self.check(sample(), [change], top + ("2",), "r", by(0, top + ("2",), 0))
            self.check(sample(), [change], top + ("2", "3"), "st", by(0, top + ("2", "3"), 0, 1))
            self.check(sample(), [change], top + ("4",), "", [])
            self.check(sample(), [change], (), ("all", "of", "it"), first((), 0, 1, 2))

    def test_by_the_place_right_behind_it_where_it_was_numbered_anew_later(self):
        tree = ("", (), (("3", ("a",), ()), ("9", ("b",), ())))
        changes = [PutIn((), self.NODE), Anew(()), Anew(("2",)), Anew(("2", "1"))]
        self.check(tree, changes, ("2",), "pq", by(0, ("5",), 0, 1))
        self.check(tree, changes, ("2", "1"), "r", by(0, ("5", "2"), 0))
        self.check(tree, changes, ("2", "1", "1"), "st", by(0, ("5", "2", "3"), 0, 1))
        self.check(tree, changes, ("1",), "a", first(("3",), 0))
        self.check(tree, changes, ("3",), "b", first(("9",), 0))

    def test_put_in_beneath_a_place_that_was_numbered_anew_ahead_of_it(self):
        tree = ("", (), (("3", ("a",), ()),))
        self.check(tree, [Anew(()), PutIn(("1",), self.NODE)], ("1", "5", "2"), "r", by(1, ("1", "5", "2"), 0))

    def test_changes_of_what_was_put_in(self):
        changes = [PutIn((), self.NODE), Swap(("5",), ("q",), ("x", "y")), Read(("5", "2"), ("z",))]
        self.check(ALONE, changes, ("5",), "pxy", by(0, ("5",), 0) + by(1, ("5",), 0, 1))
        self.check(ALONE, changes, ("5", "2"), "z", by(2, ("5", "2"), 0))
        self.check(ALONE, changes, ("5", "2", "3"), "st", by(0, ("5", "2", "3"), 0, 1))
        changes = [PutIn((), self.NODE), Anew(()), Swap(("1",), ("p",), ("x",)), PutIn((), ("2", ("w",), ())),
                   LeaveOut(("2",))]
        self.check(ALONE, changes, ("1",), "xq", by(2, ("1",), 0) + by(0, ("5",), 1))

    def test_one_put_in_beneath_one_that_was_put_in(self):
        changes = [PutIn((), self.NODE), PutIn(("5",), ("6", ("u",), ())), Anew(()), Anew(("1",))]
        self.check(ALONE, changes, ("1", "3"), "u", by(1, ("5", "6"), 0))
        self.check(ALONE, changes, ("1", "1"), "r", by(0, ("5", "2"), 0))

    def test_left_out_and_put_in_again_with_the_same_words(self):
        tree = ("", (), (("1", ("a", "b"), (("1", ("c",), ()),)),))
        node = tree[2][0]
        changes = [LeaveOut(("1",)), PutIn((), node)]
        self.check(tree, changes, ("1",), "ab", by(1, ("1",), 0, 1))
        self.check(tree, changes, ("1", "1"), "c", by(1, ("1", "1"), 0))
        self.check(tree, changes + changes, ("1", "1"), "c", by(3, ("1", "1"), 0))

    def test_one_that_does_not_fit_brings_nothing(self):
        tree = ("", (), (("1", ("a",), ()),))
        self.check(tree, [PutIn((), ("1", ("a",), ()))], ("1",), "a", first(("1",), 0))
        self.check(tree, [PutIn((), ("1", ("x",), ())), LeaveOut(())], ("1",), "a", first(("1",), 0))


class NamesAndNumbers(unittest.TestCase):
    def test_of_several_acts(self):
        rows = [
            ("zz", 0, [("change", 3, Swap((), ("b",), ("x",)), None), ("change", 9, Read((), ()), None)]),
            ("b", 0, [("drop", "zz", 7), ("change", 2, Swap((), ("c",), ("y", "z")), None)]),
            ("a", 1, [("change", 1, Swap((), ("d",), ("d",)), None)]),
        ]
        book = book_of(tree_of("a", "b", "c", "d"), rows)
        self.assertEqual(text_of(book, 3), tree_of("a", "x", "y", "z", "d"))
        self.assertEqual(origins(book, (), 3), [
            ("first", (), 0), ("by", "zz", 0, (), 0), ("by", "b", 1, (), 0), ("by", "b", 1, (), 1),
            ("by", "a", 0, (), 0),
        ])

    def test_a_change_put_in_the_stead_of_another_has_its_name_and_number(self):
        rows = [
            ("one", 0, [("change", 3, Read((), ("x",)), None), ("change", 4, Read((), ("y",)), None)]),
            ("two", 1, [("instead", "one", 1, Swap((), ("x",), ("x", "z"))), ("later", "one", 1, 5)]),
        ]
        book = book_of(tree_of("a"), rows)
        self.assertEqual(origins(book, (), 4), [("by", "one", 0, (), 0)])
        self.assertEqual(origins(book, (), 5), [("by", "one", 1, (), 0), ("by", "one", 1, (), 1)])
        self.assertEqual(origins(book, (), 5, 0), [("by", "one", 1, (), 0)])

    def test_in_the_order_of_days_acts_and_numbers(self):
        rows = [
            ("b", 0, [("change", 3, Read((), ("x",)), None)]),
            ("a", 0, [("change", 3, Read((), ("x",)), None), ("change", 2, Read((), ("x",)), None)]),
        ]
        book = book_of(ALONE, rows)
        self.assertEqual(origins(book, (), 2), [("by", "a", 1, (), 0)])
        self.assertEqual(origins(book, (), 3), [("by", "a", 0, (), 0)])

    def test_a_list_of_tuples_told_anew(self):
        book = one_act(tree_of("a", "b"), [(1, Swap((), ("b",), ("x",)))])
        told = origins(book, (), 1)
        self.assertIs(type(told), list)
        self.assertEqual([type(entry) for entry in told], [tuple, tuple])
        told.append("x")
        told[0] = None
        self.assertEqual(origins(book, (), 1), [("first", (), 0), ("by", "a", 0, (), 0)])
        self.assertEqual(origins(book, (), 0), [("first", (), 0), ("first", (), 1)])


class LeftOut(unittest.TestCase):
    """The day itself stands for seen and begun where they are left out."""

    def book(self):
        # Made on 6, the act a reaches back to 2; the other one is for cases begun on 4 or later.
        return book_of(tree_of("x"), [
            ("b", 0, [("change", 1, Read((), ("x",)), 4)]), ("a", 6, [("change", 2, Read((), ("x",)), None)]),
        ])

    def test_by_who_the_word_was_brought(self):
        book = self.book()
        plain = [("first", (), 0)]
        case = [("by", "b", 0, (), 0)]
        late = [("by", "a", 0, (), 0)]
        for asked, told in [
            ((0,), plain), ((3,), plain), ((4,), case), ((5,), case), ((6,), late), ((3, None, None), plain),
            ((3, 6), late), ((3, 5), plain), ((5, 6), late), ((9, 5), case), ((9, 0), case), ((9, -1), plain),
            ((1, 9), plain), ((3, None, 4), case), ((3, None, 3), plain), ((5, None, 3), plain), ((9, 5, 0), plain),
            ((6, None, 0), late), ((3, 5, 4), case), ((3, 6, 4), late), ((1, 9, 9), case), ((1, 9, 3), plain),
        ]:
            with self.subTest(asked=asked):
                self.assertEqual(origins(book, (), *asked), told)
        self.assertEqual(origins(book=book, place=(), day=9, seen=5, begun=3), plain)
        self.assertEqual(origins(book, (), 3, begun=4), case)
        self.assertEqual(origins(book, (), 3, seen=6), late)


class Refused(unittest.TestCase):
    def assert_no_place(self, book, place, *asked):
        with self.subTest(place=place, asked=asked):
            before = kept(book)
            with self.assertRaises(NoPlace) as caught:
                origins(book, place, *asked)
            self.assertEqual(caught.exception.place, place)
            self.assertIsInstance(caught.exception, MendError)
            self.assertEqual(kept(book), before)

    def test_no_place(self):
        book = one_act(sample(), [(1, Read((), ()))])
        for place in MISSING_PLACES:
            self.assert_no_place(book, place, 0)
            self.assert_no_place(book, place, 1)
            self.assert_no_place(book, place, 1, 9, 9)

    def test_a_place_of_another_day_or_seen_otherwise(self):
        rows = [("b", 1, [("change", 2, PutIn((), ("1", ("w",), ())), 2), ("change", 4, LeaveOut(("1",)), None)])]
        book = book_of(ALONE, rows)
        self.assertEqual(origins(book, ("1",), 2), [("by", "b", 0, ("1",), 0)])
        self.assertEqual(origins(book, ("1",), 3), [("by", "b", 0, ("1",), 0)])
        for asked in [(1,), (4,), (2, 0), (2, 1, 1), (2, None, 1), (1, 9)]:
            self.assert_no_place(book, ("1",), *asked)


class FreshWords:
    """Changes drawn by chance that fit, one behind the other, each with words that stand nowhere else."""

    def __init__(self, seed):
        self.chance = random.Random(seed)
        self.made = 0
        self.sources = {}
        self.tree = self.node("", (), ("first",), 3)
        self.first = self.tree
        self.changes = []

    def words(self, place, source):
        words = []
        for spot in range(self.chance.randint(0, 4)):
            self.made += 1
            words.append(f"w{self.made}")
            self.sources[words[-1]] = source + (place, spot)
        return tuple(words)

    def node(self, label, place, source, levels):
        labels = self.chance.sample(LABELS, self.chance.randint(0, 3)) if levels > 1 else []
        kids = [self.node(kid, place + (kid,), source, levels - 1) for kid in LABELS if kid in labels]
        return (label, self.words(place, source), tuple(kids))

    def change(self, source):
        place = self.chance.choice(places(self.tree))
        kind = self.chance.randint(0, 5)
        if kind == 0:
            return Read(place, self.words(place, source))
        if kind == 1:
            label = self.chance.choice(LABELS)
            return PutIn(place, self.node(label, place + (label,), source, 2))
        if kind == 2:
            return self.chance.choice([Anew(place), LeaveOut(place)])
        old = node_at(self.tree, place)[1]
        begin = self.chance.randint(0, len(old))
        end = self.chance.randint(begin, len(old))
        return Swap(place, old[begin:end] or ("none",), self.words(place, source))

    def go_on(self):
        change = self.change(("by", "a", len(self.changes)))
        self.changes.append(change)
        if change.reason(self.tree) is None:
            self.tree = change.done(self.tree)


class ByChance(unittest.TestCase):
    def test_words_that_stand_nowhere_else_tell_themselves_from_where_they_come(self):
        met = 0
        for seed in range(60):
            fresh = FreshWords(seed)
            for _ in range(40):
                fresh.go_on()
            book = one_act(fresh.first, list(enumerate(fresh.changes, start=1)))
            self.assertEqual(text_of(book, 40), fresh.tree)
            for day in [0, 10, 25, 40]:
                tree = text_of(book, day)
                for place in places(tree):
                    words = node_at(tree, place)[1]
                    self.assertEqual(origins(book, place, day), [fresh.sources[word] for word in words])
                    met += len(words)
        self.assertGreater(met, 2000)

    def test_each_word_is_the_one_at_the_spot_that_is_told(self):
        heads = {}
        for seed in range(120):
            book = chance_book(seed)
            acts = {act[0]: act for act in book.acts()}
            # By instead another change may stand at a number: so only books without it are asked here.
            if any(deed[0] == "instead" for act in book.acts() for deed in act[3]):
                continue
            for day, seen, begun in [(14, 20, 20), (6, 20, 3), (9, 4, 9), (-1, 20, 20)]:
                tree = text_of(book, day, seen, begun)
                done = [row[:2] for row in story(book, day, seen, begun) if row[2] is None]
                for place in places(tree):
                    told = origins(book, place, day, seen, begun)
                    words = node_at(tree, place)[1]
                    self.assertEqual(len(told), len(words))
                    self.assertEqual(len(set(told)), len(told))
                    for word, origin in zip(words, told):
                        heads[self.check_origin(book, acts, done, word, origin)] = True
        self.assertEqual(set(heads), {"first", "Swap", "Read", "PutIn"})

    def check_origin(self, book, acts, done, word, origin):
        if origin[0] == "first":
            self.assertEqual(word, node_at(book.first(), origin[1])[1][origin[2]])
            return "first"
        head, name, number, place, spot = origin
        self.assertEqual(head, "by")
        self.assertIn((name, number), done)
        change = acts[name][3][number][2]
        if isinstance(change, PutIn):
            top = change.place + (change.node[0],)
            self.assertEqual(place[:len(top)], top)
            words = node_at(change.node, place[len(top):])[1]
        else:
            self.assertEqual(place, change.place)
            words = change.new if isinstance(change, Swap) else change.words
        self.assertEqual(word, words[spot])
        return type(change).__name__

    def test_no_two_words_of_a_text_come_from_one_spot(self):
        for seed in range(120, 180):
            book = chance_book(seed)
            for day in [-1, 4, 8, 14]:
                told = []
                for place in places(text_of(book, day, 20)):
                    told += origins(book, place, day, 20)
                self.assertEqual(len(set(told)), len(told))


if __name__ == "__main__":
    unittest.main()
