"""The text of a day, seen from a day, for a case begun on a day, and the story of the changes that lead to it."""

import unittest

from codemend.acts import Book
from codemend.changes import Anew, LeaveOut, PutIn, Read, Swap
from codemend.counting import what_counts
from codemend.telling import story, text_of
from codemend.trees import is_tree
from books import book_of, chance_book, kept, one_act, spelled
from samples import ALONE, chain, chain_tree, sample

FAR = 10 ** 60 - 1


def tree_of(*words):
    """A tree with these words and nothing beneath it."""
    return ("", words, ())


def add(word):
    """A change that puts a word behind the mark, so that the text tells which ones were done, in what order."""
    return Swap((), ("mark",), ("mark", word))


MARKED = tree_of("mark")


def words_of(tree):
    """The words that were put behind the mark, the last one first as they stand there."""
    return " ".join(tree[1][1:])


class Checked(unittest.TestCase):
    def check(self, book, asked, tree, told):
        """The text and the story for what is asked, twice each, and the book as it was."""
        before = kept(book)
        with self.subTest(asked=asked):
            for _ in range(2):
                self.assertEqual(text_of(book, *asked), tree)
                self.assertEqual(story(book, *asked), told)
                self.assertEqual(kept(book), before)

    def check_words(self, book, asked, words):
        with self.subTest(asked=asked):
            self.assertEqual(words_of(text_of(book, *asked)), words)


class ByDay(Checked):
    def test_no_acts(self):
        for tree in [ALONE, sample(), chain_tree(9)]:
            for asked in [(0,), (-FAR,), (FAR,), (3, 2), (3, 4), (3, 4, 1), (3, None, 1)]:
                self.check(Book(tree), asked, tree, [])

    def test_no_deeds(self):
        book = book_of(sample(), [("a", 1, []), ("b", 2, "a")])
        for day in range(4):
            self.check(book, (day,), sample(), [])

    def test_a_change_in_force_on_the_day_earlier_and_later(self):
        book = one_act(tree_of("old"), [(5, Read((), ("new",)))])
        for day in [-FAR, -1, 0, 4]:
            self.check(book, (day,), tree_of("old"), [])
        for day in [5, 6, FAR]:
            self.check(book, (day,), tree_of("new"), [("a", 0, None)])

    def test_days_below_nought(self):
        book = one_act(tree_of("old"), [(-5, Read((), ("new",)))], -8)
        for day, word in [(-8, "old"), (-6, "old"), (-5, "new"), (-4, "new"), (0, "new"), (5, "new")]:
            self.assertEqual(text_of(book, day), tree_of(word))

    def test_each_kind_of_change(self):
        first = ("", ("top",), (("1", ("a", "b"), ()), ("3", (), (("2", ("c",), ()),))))
        changes = [
            (1, Swap(("1",), ("b",), ("x", "y"))), (2, Read(("3", "2"), ("z",))),
            (3, PutIn((), ("2a", ("n",), (("1", (), ()),)))), (4, LeaveOut(("1",))), (5, Anew(())),
        ]
        trees = [
            first,
            ("", ("top",), (("1", ("a", "x", "y"), ()), ("3", (), (("2", ("c",), ()),)))),
            ("", ("top",), (("1", ("a", "x", "y"), ()), ("3", (), (("2", ("z",), ()),)))),
            ("", ("top",), (("1", ("a", "x", "y"), ()), ("2a", ("n",), (("1", (), ()),)),
                            ("3", (), (("2", ("z",), ()),)))),
            ("", ("top",), (("2a", ("n",), (("1", (), ()),)), ("3", (), (("2", ("z",), ()),)))),
            ("", ("top",), (("1", ("n",), (("1", (), ()),)), ("2", (), (("2", ("z",), ()),)))),
        ]
        book = one_act(first, changes)
        for day, tree in enumerate(trees):
            self.check(book, (day,), tree, [("a", number, None) for number in range(day)])

    def test_in_the_order_of_days_acts_and_numbers(self):
        rows = [
            ("z", 0, [("change", 3, add("za"), None), ("change", 1, add("zb"), None), ("change", 3, add("zc"), None)]),
            ("b", 0, [("change", 2, add("ba"), None), ("change", 3, add("bb"), None)]),
            ("a", 0, [("change", 3, add("aa"), None), ("change", 1, add("ab"), None), ("change", -4, add("ac"), None)]),
        ]
        book = book_of(MARKED, rows)
        # Each one stands ahead of those done ahead of it.
        self.check(book, (3,), tree_of(*"mark aa bb zc za ba ab zb ac".split()), [
            ("a", 2, None), ("z", 1, None), ("a", 1, None), ("b", 0, None), ("z", 0, None), ("z", 2, None),
            ("b", 1, None), ("a", 0, None),
        ])
        self.check(book, (2,), tree_of(*"mark ba ab zb ac".split()), [
            ("a", 2, None), ("z", 1, None), ("a", 1, None), ("b", 0, None),
        ])
        self.check(book, (0,), tree_of("mark", "ac"), [("a", 2, None)])

    def test_a_day_ahead_of_the_act_that_tells_it(self):
        book = book_of(MARKED, [
            ("b", 5, [("change", 6, add("b"), None)]), ("a", 10, [("change", 3, add("a"), None)]),
        ])
        self.check_words(book, (3,), "")
        self.check_words(book, (3, 9), "")
        self.check_words(book, (3, 10), "a")
        self.check_words(book, (2, 10), "")
        self.check_words(book, (6,), "b")
        self.check_words(book, (6, 9), "b")
        # Seen from behind the act, it is done ahead of what is in force from a later day on.
        self.check_words(book, (6, 10), "b a")
        self.assertEqual(story(book, 6, 10), [("a", 0, None), ("b", 0, None)])
        self.check_words(book, (10,), "b a")


class Unfit(Checked):
    def test_each_reason_is_told_and_what_is_behind_is_done(self):
        first = ("", ("a",), (("1", ("b", "b"), ()), ("2", (), ())))
        for why, change in [
            ("place", Swap(("3",), ("b",), ())), ("words", Swap(("1",), ("a",), ())),
            ("twice", Swap(("1",), ("b",), ())),
            ("place", Read(("1", "1"), ("x",))),
            ("place", PutIn(("3",), ("1", (), ()))), ("there", PutIn((), ("1", (), ()))),
            ("deep", PutIn(("1",), chain(8, "1"))),
            ("whole", LeaveOut(())), ("place", LeaveOut(("3",))),
            ("place", Anew(("2", "1"))),
        ]:
            behind = ("", ("z",), (("1", ("b", "b"), ()), ("2", ("y",), ())))
            read_one = Read((), ("z",))
            read_two = Read(("2",), ("y",))
            # Unfit first, amid and last, by days and by numbers.
            for rows, told in [
                ([(1, change), (2, read_one), (3, read_two)], [why, None, None]),
                ([(1, read_one), (2, change), (3, read_two)], [None, why, None]),
                ([(1, read_one), (2, read_two), (3, change)], [None, None, why]),
                ([(3, change), (3, read_one), (3, read_two)], [why, None, None]),
                ([(3, read_one), (3, change), (3, read_two)], [None, why, None]),
            ]:
                expected = [("a", number, reason) for number, reason in enumerate(told)]
                self.check(one_act(first, rows), (3,), behind, expected)

    def test_none_fits(self):
        book = one_act(sample(), [(1, LeaveOut(())), (1, Read(("99",), ()))])
        self.check(book, (0,), sample(), [])
        self.check(book, (1,), sample(), [("a", 0, "whole"), ("a", 1, "place")])

    def test_fits_only_since_one_ahead_was_done(self):
        node = ("5", ("x",), ())
        fits = [(PutIn((), node), Read(("5",), ("y",)), ("", (), (("5", ("y",), ()),)), "place"),
                (Read((), ("x",)), Swap((), ("x",), ("y",)), tree_of("y"), "words"),
                (PutIn((), node), LeaveOut(("5",)), ALONE, "place")]
        for ahead, behind, tree, why in fits:
            self.check(one_act(ALONE, [(1, ahead), (2, behind)]), (2,), tree, [("a", 0, None), ("a", 1, None)])
            # The other way about it comes upon what is not there yet.
            self.check(one_act(ALONE, [(2, ahead), (1, behind)]), (2,), ahead.done(ALONE),
                       [("a", 1, why), ("a", 0, None)])

    def test_does_not_fit_any_more(self):
        first = ("", ("x", "y"), (("5", (), ()), ("8", (), ())))
        for ahead, behind, why in [
            (LeaveOut(("5",)), Read(("5",), ("y",)), "place"), (LeaveOut(("5",)), LeaveOut(("5",)), "place"),
            (Read((), ()), Swap((), ("x",), ()), "words"), (Swap((), ("y",), ("x",)), Swap((), ("x",), ()), "twice"),
            (PutIn((), ("6", (), ())), PutIn((), ("6", ("n",), ())), "there"),
            (PutIn(("5",), chain(7)), PutIn(("5", "1"), chain(7, "2")), "deep"),
            (Anew(()), Read(("8",), ("z",)), "place"), (Anew(()), PutIn((), ("2", (), ())), "there"),
        ]:
            book = one_act(first, [(1, ahead), (2, behind)])
            self.check(book, (1,), ahead.done(first), [("a", 0, None)])
            self.check(book, (2,), ahead.done(first), [("a", 0, None), ("a", 1, why)])

    def test_passed_over_for_good(self):
        # What did not fit in its turn is not done later, when it would fit.
        first = ("", (), (("1", (), ()),))
        book = one_act(first, [(1, PutIn((), ("1", ("n",), ()))), (2, LeaveOut(("1",)))])
        self.check(book, (9,), ALONE, [("a", 0, "there"), ("a", 1, None)])

    def test_a_drop_changes_what_fits_behind_it(self):
        rows = [("a", 0, [("change", 5, Read((), ("x",)), None), ("change", 6, Swap((), ("x",), ("y",)), None)])]
        book = book_of(ALONE, rows + [("b", 3, [("drop", "a", 0)])])
        self.check(book, (6, 2), tree_of("y"), [("a", 0, None), ("a", 1, None)])
        self.check(book, (6, 3), ALONE, [("a", 1, "words")])


class Cases(Checked):
    def test_since_with_a_case_begun_ahead_of_it_on_it_and_behind_it(self):
        book = one_act(MARKED, [(5, add("new"), 3)])
        for begun, done in [(-FAR, False), (-3, False), (2, False), (3, True), (4, True), (5, True), (9, True)]:
            told = [("a", 0, None)] if done else []
            tree = tree_of("mark", "new") if done else MARKED
            self.check(book, (5, 5, begun), tree, told)
            self.check(book, (5, None, begun), tree, told)
            # Not in force yet, whenever the case began.
            self.check(book, (4, 4, begun), MARKED, [])

    def test_since_nought_and_below(self):
        for since in [0, -4]:
            book = one_act(MARKED, [(-9, add("new"), since)], -9)
            for begun, words in [(since - 1, ""), (since, "new"), (since + 1, "new")]:
                self.check_words(book, (20, 20, begun), words)
                self.check_words(book, (-9, -9, begun), words)

    def test_since_none_is_for_every_case(self):
        book = one_act(MARKED, [(5, add("new"))])
        for begun in [-FAR, 0, 5, FAR]:
            self.check_words(book, (5, 5, begun), "new")

    def test_left_out_by_since_it_is_not_in_the_story_and_leads_nothing_on(self):
        book = one_act(ALONE, [(1, Read((), ("x",)), 4), (2, Swap((), ("x",), ("y",))), (3, Read((), ("z",)), 5)])
        self.check(book, (9, 9, 3), ALONE, [("a", 1, "words")])
        self.check(book, (9, 9, 4), tree_of("y"), [("a", 0, None), ("a", 1, None)])
        self.check(book, (9, 9, 5), tree_of("z"), [("a", 0, None), ("a", 1, None), ("a", 2, None)])

    def test_since_later_than_the_change_comes_into_force(self):
        book = one_act(MARKED, [(5, add("new"), 8)])
        self.check_words(book, (5,), "")
        self.check_words(book, (7,), "")
        self.check_words(book, (8,), "new")
        self.check_words(book, (5, 5, 8), "new")
        self.check_words(book, (8, 8, 7), "")


class LeftOut(Checked):
    """Which day stands for the one from which it is seen, and for the one on which the case began."""

    def book(self):
        # "early" is in force from 2 on but made on 6; "case" is for cases begun on 4 or later.
        return book_of(MARKED, [
            ("b", 0, [("change", 1, add("plain"), None), ("change", 2, add("case"), 4)]),
            ("a", 6, [("change", 2, add("early"), None)]),
        ])

    def test_both(self):
        for day, words in [(0, ""), (1, "plain"), (2, "plain"), (3, "plain"), (4, "case plain"), (5, "case plain"),
                           (6, "early case plain"), (7, "early case plain")]:
            self.check_words(self.book(), (day,), words)
            self.check_words(self.book(), (day, None), words)
            self.check_words(self.book(), (day, None, None), words)
            self.check_words(self.book(), (day, day, day), words)

    def test_seen(self):
        book = self.book()
        for day, begun, words in [(3, 3, "plain"), (3, 4, "case plain"), (5, 9, "case plain"), (6, 3, "early plain"),
                                  (6, 4, "early case plain")]:
            with self.subTest(day=day, begun=begun):
                self.assertEqual(words_of(text_of(book, day, begun=begun)), words)
                self.assertEqual(words_of(text_of(book, day, None, begun)), words)
                self.assertEqual(story(book, day, begun=begun), story(book, day, day, begun))

    def test_begun(self):
        book = self.book()
        for day, seen, words in [(3, 6, "early plain"), (3, 5, "plain"), (4, 6, "early case plain"),
                                 (4, 0, "case plain"), (9, 5, "case plain"), (9, -1, "")]:
            with self.subTest(day=day, seen=seen):
                self.assertEqual(words_of(text_of(book, day, seen)), words)
                self.assertEqual(words_of(text_of(book, day, seen=seen)), words)
                self.assertEqual(words_of(text_of(book, day, seen, None)), words)
                self.assertEqual(story(book, day, seen), story(book, day, seen, day))

    def test_neither(self):
        book = self.book()
        for day, seen, begun, words in [
            (3, 6, 4, "early case plain"), (3, 6, 3, "early plain"), (3, 5, 4, "case plain"), (3, 5, 3, "plain"),
            (1, 6, 9, "plain"), (0, 9, 9, ""), (9, 6, 3, "early plain"), (9, -1, 9, ""),
        ]:
            self.check_words(book, (day, seen, begun), words)
            with self.subTest(day=day, seen=seen, begun=begun):
                self.assertEqual(words_of(text_of(book=book, day=day, seen=seen, begun=begun)), words)
                self.assertEqual(story(book=book, day=day, seen=seen, begun=begun), story(book, day, seen, begun))

    def test_nought_is_a_day_and_not_left_out(self):
        book = self.book()
        self.check_words(book, (9, 0), "case plain")
        self.check_words(book, (9, 9, 0), "early plain")
        self.check_words(book, (9, 0, 0), "plain")
        self.assertEqual(story(book, 9, 0, 0), [("b", 0, None)])
        # Made on -1, and asked of days to which 0 makes a difference.
        book = one_act(MARKED, [(-3, add("new"), 0)], -1)
        self.check_words(book, (-1, -1, 0), "new")
        self.check_words(book, (-1, -1, -1), "")
        self.check_words(book, (-2, 0, 0), "new")
        self.check_words(book, (-2, -2, 0), "")


class SeenFrom(Checked):
    def test_ahead_of_the_day_and_behind_it(self):
        book = book_of(MARKED, [
            ("a", 1, [("change", 3, add("a"), None)]),
            ("b", 4, [("change", 6, add("b"), None)]),
            ("c", 8, [("change", 2, add("c"), None)]),
        ])
        # For each day the words seen from 0 on.
        told = {
            1: ["", "", "", "", "", "", "", "", ""],
            2: ["", "", "", "", "", "", "", "", "c"],
            3: ["", "a", "a", "a", "a", "a", "a", "a", "a c"],
            6: ["", "a", "a", "a", "b a", "b a", "b a", "b a", "b a c"],
            9: ["", "a", "a", "a", "b a", "b a", "b a", "b a", "b a c"],
        }
        for day, rows in told.items():
            for seen, words in enumerate(rows):
                self.check_words(book, (day, seen), words)

    def test_what_was_put_off_exchanged_and_dropped(self):
        rows = [
            ("a", 0, [("change", 5, add("x"), None), ("change", 5, add("y"), None), ("change", 5, add("z"), 3)]),
            ("b", 2, [("later", "a", 0, 7), ("drop", "a", 1), ("instead", "a", 2, add("n"))]),
            ("c", 6, [("later", "a", 0, 9), ("drop", "a", 2)]),
        ]
        book = book_of(MARKED, rows)
        for day, seen, words in [
            (5, 1, "z y x"), (5, 2, "n"), (5, 6, "n"), (6, 1, "z y x"), (6, 2, "n"), (7, 5, "x n"), (7, 6, "n"),
            (8, 6, "n"), (9, 6, "x n"), (9, 1, "z y x"), (4, 9, ""),
        ]:
            self.check_words(book, (day, seen), words)
        self.assertEqual(story(book, 9, 6), [("a", 2, None), ("a", 0, None)])
        self.assertEqual(story(book, 9, 6, 2), [("a", 0, None)])

    def test_an_act_taken_back_has_never_been(self):
        one = ("a", 1, [("change", 3, PutIn((), ("1", ("x",), ())), None)])
        two = ("b", 2, [("change", 4, Read(("1",), ("y",)), None), ("later", "a", 0, 5)])
        nothing = ("b", 2, [])
        behind = ("d", 7, [("change", 6, Read(("1",), ("z",)), None)])
        book = book_of(ALONE, [one, two, ("c", 4, "b"), behind])
        other = book_of(ALONE, [one, nothing, ("c", 4, "b"), behind])
        for day in range(9):
            for seen in range(4, 10):
                with self.subTest(day=day, seen=seen):
                    self.assertEqual(text_of(book, day, seen), text_of(other, day, seen))
                    self.assertEqual(story(book, day, seen), story(other, day, seen))
        self.assertEqual(story(book, 6, 3), [("b", 0, "place"), ("a", 0, None)])
        self.assertEqual(story(book, 6, 4), [("a", 0, None)])
        self.assertEqual(story(book, 6, 7), [("a", 0, None), ("d", 0, None)])


class Told(unittest.TestCase):
    def test_a_list_of_tuples_told_anew(self):
        book = one_act(ALONE, [(1, Read((), ("x",))), (2, LeaveOut(()))])
        told = story(book, 2)
        self.assertIs(type(told), list)
        self.assertEqual([type(entry) for entry in told], [tuple, tuple])
        told.append("x")
        told[0] = None
        self.assertEqual(story(book, 2), [("a", 0, None), ("a", 1, "whole")])
        story(book, 0).append("x")
        self.assertEqual(story(book, 0), [])

    def test_behind_more_acts(self):
        book = Book(MARKED)
        self.assertEqual(text_of(book, 5), MARKED)
        book.act("a", 1, [("change", 2, add("a"), None)])
        self.assertEqual(words_of(text_of(book, 5)), "a")
        book.act("b", 2, [("change", 1, add("b"), None)])
        self.assertEqual(words_of(text_of(book, 5)), "a b")
        self.assertEqual(words_of(text_of(book, 5, 1)), "a")
        book.back("c", 3, "a")
        self.assertEqual(words_of(text_of(book, 5)), "b")
        self.assertEqual(story(book, 5), [("b", 0, None)])
        self.assertEqual(book.first(), MARKED)


def told_by_hand(book, day, seen, begun):
    """The text and the story, told once more from what counts."""
    tree = book.first()
    told = []
    for entry, name, number, change, since in what_counts(book, seen):
        if entry > day or (since is not None and since > begun):
            continue
        reason = change.reason(tree)
        told.append((name, number, reason))
        if reason is None:
            tree = change.done(tree)
    return tree, told


class ByChance(unittest.TestCase):
    def asked(self, seeds):
        for seed in seeds:
            book = chance_book(seed)
            for seen in [-1, 0, 2, 4, 6, 9, 20]:
                for begun in [-3, 3, 8, 20]:
                    yield book, seen, begun

    def test_as_told_by_hand(self):
        reasons = {}
        for book, seen, begun in self.asked(range(60)):
            before = kept(book)
            for day in [-3, 0, 3, 7, 15]:
                tree, told = told_by_hand(book, day, seen, begun)
                self.assertEqual(text_of(book, day, seen, begun), tree)
                self.assertEqual(story(book, day, seen, begun), told)
                self.assertIs(is_tree(tree), True)
                for row in told:
                    reasons[row[2]] = True
            self.assertEqual(kept(book), before)
        self.assertEqual(set(reasons), {None, "place", "words", "twice", "there", "whole"})

    def test_the_text_of_an_earlier_day_leads_on_to_that_of_a_later_one(self):
        for book, seen, begun in self.asked(range(60, 100)):
            for day in range(-3, 15):
                tree = text_of(book, day, seen, begun)
                told = story(book, day, seen, begun)
                for later in [day, day + 1, day + 4]:
                    here = tree
                    for entry, name, number, change, since in what_counts(book, seen):
                        if day < entry <= later and (since is None or since <= begun) and change.reason(here) is None:
                            here = change.done(here)
                    self.assertEqual(text_of(book, later, seen, begun), here)
                    self.assertEqual(story(book, later, seen, begun)[:len(told)], told)

    def test_behind_an_act_that_is_taken_back(self):
        for seed in range(100, 200):
            book = chance_book(seed)
            rows = [(name, day, deeds if other is None else other) for name, day, other, deeds in book.acts()]
            name, day, rest = rows[0]
            behind = rows + [("last", rows[-1][1] + 1, name)]
            nothing = [(name, day, [])] + behind[1:]
            one = book_of(book.first(), behind)
            other = book_of(book.first(), nothing)
            for seen in [behind[-1][1], behind[-1][1] + 3]:
                for asked in [-1, 3, 6, 12]:
                    self.assertEqual(text_of(one, asked, seen), text_of(other, asked, seen))
                    self.assertEqual(story(one, asked, seen), story(other, asked, seen))
                    self.assertEqual(spelled(what_counts(one, seen)), spelled(what_counts(other, seen)))


class Many(unittest.TestCase):
    def test_as_many_as_are_promised(self):
        """Sixty acts of sixty changes, and a tree of 400 places."""
        kids = [(str(number), ("w",), (("1", ("v",), ()),)) for number in range(1, 200)]
        first = ("", ("mark",), tuple(kids))
        rows = []
        for act in range(60):
            name = "abcdefghijklmnop"[act // 8] + "abcdefgh"[act % 8]
            deeds = [("change", number, Read((str(number + 1), "1"), (name,)), None) for number in range(60)]
            rows.append((name, act, deeds))
        book = book_of(first, rows)
        told = story(book, 100)
        self.assertEqual(len(told), 3600)
        self.assertEqual([row[2] for row in told], [None] * 3600)
        tree = text_of(book, 100)
        last = rows[-1][0]
        self.assertEqual([kid[2][0][1] for kid in tree[2]], [(last,)] * 60 + [("v",)] * 139)


if __name__ == "__main__":
    unittest.main()
