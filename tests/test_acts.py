"""A book: its first tree, its acts in their order, and what it refuses."""

import unittest

from codemend.acts import Book
from codemend.changes import Anew, LeaveOut, PutIn, Read, Swap
from codemend.errors import MendError, NoAct, NoDay, NoName, Twice
from samples import ALONE, no_texts, sample

READ = Read(("1",), ("new",))

NO_NAMES = [
    "", " ", "abcdefghi", "a" * 20, "A", "Abc", "abC", "abc1", "1", "a b", " a", "a ", "a\n", "\n", "a_b", "_", "a-b", 
    "a.b", ".", "\u00e4", "a\u00df", "\u0430", "\u00aa", "a\x00", ";",
]


def deeds_of_each_kind(name):
    """Deeds that name an act, one of each kind that does."""
    return [("later", name, 0, 9), ("instead", name, 0, Anew(())), ("drop", name, 0)]


def three_acts():
    """A book of two acts with deeds and one that takes the first of them back, and what it tells of them."""
    book = Book(sample())
    one = [("change", 5, READ, None)]
    two = [("drop", "one", 0), ("change", -3, Anew(()), 7)]
    book.act("one", 1, one)
    book.act("two", 4, two)
    book.back("three", 4, "one")
    return book, [("one", 1, None, one), ("two", 4, None, two), ("three", 4, "one", [])]


class Keeping(unittest.TestCase):
    def test_first(self):
        for tree in [sample(), ALONE]:
            book = Book(tree)
            self.assertEqual(book.first(), tree)
            book.act("a", 0, [("change", 0, LeaveOut(("1",)), None)])
            book.back("b", 0, "a")
            self.assertEqual(book.first(), tree)

    def test_no_acts(self):
        self.assertEqual(Book(ALONE).acts(), [])
        self.assertIs(type(Book(ALONE).acts()), list)

    def test_one_act_with_deeds(self):
        book = Book(sample())
        swap = Swap(("1",), ("one",), ())
        put_in = PutIn((), ("7", ("w",), ()))
        deeds = [("change", 3, swap, None), ("change", -10 ** 50, put_in, 4)]
        book.act("first", 2, deeds)
        self.assertEqual(book.acts(), [("first", 2, None, deeds)])
        told = book.acts()[0]
        self.assertIs(type(told), tuple)
        self.assertIs(type(told[3]), list)
        self.assertEqual([type(deed) for deed in told[3]], [tuple, tuple])
        change = told[3][0][2]
        self.assertIsInstance(change, Swap)
        self.assertEqual((change.place, change.old, change.new), (("1",), ("one",), ()))
        change = told[3][1][2]
        self.assertIsInstance(change, PutIn)
        self.assertEqual((change.place, change.node), ((), ("7", ("w",), ())))

    def test_several_acts_of_both_kinds(self):
        book, expected = three_acts()
        self.assertEqual(book.acts(), expected)
        book.back("four", 4, "three")
        self.assertEqual(book.acts(), expected + [("four", 4, "three", [])])

    def test_every_kind_of_deed(self):
        book = Book(ALONE)
        book.act("a", 0, [("change", 1, READ, None)])
        deeds = deeds_of_each_kind("a") + [("change", 1, READ, 0)] + deeds_of_each_kind("a")
        book.act("b", 0, deeds)
        self.assertEqual(book.acts()[1], ("b", 0, None, deeds))

    def test_an_act_without_deeds(self):
        book = Book(ALONE)
        book.act("a", 1, [])
        self.assertEqual(book.acts(), [("a", 1, None, [])])
        book.back("b", 1, "a")
        self.assertEqual(book.acts(), [("a", 1, None, []), ("b", 1, "a", [])])

    def test_days_below_nought_and_the_same_day_twice(self):
        book = Book(ALONE)
        days = [-10 ** 59, -5, -5, 0, 0, 3, 3, 10 ** 59]
        for name, day in zip("abcdefgh", days):
            book.act(name, day, [])
        self.assertEqual([act[1] for act in book.acts()], days)

    def test_act_and_back_tell_none(self):
        book = Book(ALONE)
        self.assertIsNone(book.act("a", 1, [("change", 1, READ, None)]))
        self.assertIsNone(book.act("b", 1, []))
        self.assertIsNone(book.back("c", 1, "a"))

    def test_an_act_may_be_taken_back_more_than_once_and_named_behind_that(self):
        book = Book(ALONE)
        book.act("a", 1, [("change", 1, READ, None)])
        book.back("b", 1, "a")
        book.back("c", 2, "a")
        book.back("d", 2, "b")
        book.act("e", 2, deeds_of_each_kind("a")[:1] + deeds_of_each_kind("b")[2:])
        self.assertEqual([act[:3] for act in book.acts()], [
            ("a", 1, None), ("b", 1, "a"), ("c", 2, "a"), ("d", 2, "b"), ("e", 2, None),
        ])

    def test_two_books_do_not_share_their_acts(self):
        one = Book(ALONE)
        other = Book(sample())
        one.act("a", 5, [])
        self.assertEqual(other.acts(), [])
        other.act("a", 1, [("change", 1, READ, None)])
        self.assertEqual(one.acts(), [("a", 5, None, [])])
        self.assertEqual(one.first(), ALONE)

    def test_sixty_acts(self):
        book = Book(ALONE)
        deeds = [("change", day, READ, None) for day in range(60)]
        names = ["".join("abcdefghij"[int(figure)] for figure in str(number)) for number in range(60)]
        for day, name in enumerate(names):
            book.act(name, day, deeds)
        self.assertEqual(book.acts(), [(name, day, None, deeds) for day, name in enumerate(names)])


class Own(unittest.TestCase):
    def test_a_list_of_deeds_changed_by_the_asker_later(self):
        book = Book(ALONE)
        deeds = [("change", 5, READ, None), ("change", 6, READ, 2)]
        book.act("a", 1, deeds)
        deeds.append(("change", 7, READ, None))
        self.assertEqual(book.acts(), [("a", 1, None, [("change", 5, READ, None), ("change", 6, READ, 2)])])
        deeds.clear()
        self.assertEqual(book.acts(), [("a", 1, None, [("change", 5, READ, None), ("change", 6, READ, 2)])])

    def test_an_empty_list_of_deeds_filled_by_the_asker_later(self):
        book = Book(ALONE)
        deeds = []
        book.act("a", 1, deeds)
        deeds.append(("change", 7, READ, None))
        self.assertEqual(book.acts(), [("a", 1, None, [])])

    def test_one_list_of_deeds_for_two_acts(self):
        book = Book(ALONE)
        deeds = [("change", 5, READ, None)]
        book.act("a", 1, deeds)
        book.act("b", 1, deeds)
        book.acts()[0][3].clear()
        self.assertEqual([act[3] for act in book.acts()], [deeds, deeds])

    def test_what_is_handed_in_is_not_changed(self):
        tree = sample()
        book = Book(tree)
        deeds = [("change", 5, READ, None), ("change", 4, Anew(()), 7)]
        before = list(deeds)
        book.act("a", 1, deeds)
        book.acts()[0][3].clear()
        book.back("b", 1, "a")
        self.assertEqual(deeds, before)
        self.assertEqual((READ.place, READ.words), (("1",), ("new",)))
        self.assertEqual(tree, sample())

    def test_a_list_of_acts_changed_by_the_asker(self):
        book, expected = three_acts()
        told = book.acts()
        told.append("more")
        told[0] = None
        told.reverse()
        self.assertEqual(book.acts(), expected)
        book.acts().clear()
        self.assertEqual(book.acts(), expected)

    def test_a_told_list_of_deeds_changed_by_the_asker(self):
        book, expected = three_acts()
        for act in book.acts():
            act[3].append("more")
        self.assertEqual(book.acts(), expected)
        for act in book.acts():
            act[3].clear()
        self.assertEqual(book.acts(), expected)

    def test_a_told_list_stays_as_it_was(self):
        book, expected = three_acts()
        told = book.acts()
        book.act("four", 9, [])
        self.assertEqual(told, expected)

    def test_an_empty_list_that_was_told_is_not_filled(self):
        book = Book(ALONE)
        told = book.acts()
        book.act("a", 1, [])
        self.assertEqual(told, [])


class Refusing(unittest.TestCase):
    """A refusal is looked at with the book, which has to be as it was ahead of it."""

    def assert_refused(self, refusal, book, call):
        acts = book.acts()
        tree = book.first()
        with self.assertRaises(MendError) as caught:
            call()
        self.assertIs(type(caught.exception), refusal)
        self.assertEqual(book.acts(), acts)
        self.assertEqual(book.first(), tree)
        return caught.exception

    def assert_no_act(self, name, book, call):
        self.assertEqual(self.assert_refused(NoAct, book, call).name, name)


class Names(Refusing):
    def test_names_of_one_to_eight_small_letters(self):
        for name in ["a", "z", "ab", "abcdefgh", "zzzzzzzz", "act", "change", "later", "drop", "back"]:
            with self.subTest(name=name):
                book = Book(ALONE)
                book.act(name, 0, [])
                book.act("other" if name != "other" else "another", 0, deeds_of_each_kind(name))
                self.assertEqual(book.acts()[0], (name, 0, None, []))
                book = Book(ALONE)
                book.act("ahead", 0, [])
                book.back(name, 0, "ahead")
                self.assertEqual(book.acts()[1], (name, 0, "ahead", []))

    def test_what_is_no_name(self):
        for number, name in enumerate(NO_NAMES + no_texts()):
            with self.subTest(number=number):
                book = three_acts()[0]
                self.assert_refused(NoName, book, lambda: book.act(name, 9, []))
                self.assert_refused(NoName, book, lambda: book.act(name, 9, [("change", 1, READ, None)]))
                self.assert_refused(NoName, book, lambda: book.back(name, 9, "two"))
                empty = Book(ALONE)
                self.assert_refused(NoName, empty, lambda: empty.act(name, 9, []))

    def test_twice(self):
        for name in ["one", "two", "three"]:
            book = three_acts()[0]
            self.assert_refused(Twice, book, lambda: book.act(name, 9, []))
            self.assert_refused(Twice, book, lambda: book.act(name, 4, [("change", 1, READ, None)]))
            self.assert_refused(Twice, book, lambda: book.back(name, 9, "one"))

    def test_a_name_within_another_one_is_another_name(self):
        book = Book(ALONE)
        book.act("abc", 0, [])
        for name in ["a", "ab", "bc", "abcd"]:
            book.act(name, 0, [])
        self.assertEqual([act[0] for act in book.acts()], ["abc", "a", "ab", "bc", "abcd"])


class Days(Refusing):
    def test_less_than_the_last_acts_day(self):
        for day in [3, 0, -1, -10 ** 50]:
            book = three_acts()[0]
            self.assert_refused(NoDay, book, lambda: book.act("new", day, []))
            self.assert_refused(NoDay, book, lambda: book.act("new", day, [("change", 100, READ, None)]))
            self.assert_refused(NoDay, book, lambda: book.back("new", day, "one"))

    def test_behind_an_act_that_takes_back(self):
        book = Book(ALONE)
        book.act("a", 1, [])
        book.back("b", 6, "a")
        self.assert_refused(NoDay, book, lambda: book.act("c", 5, []))
        book.act("c", 6, [])
        self.assert_refused(NoDay, book, lambda: book.back("d", 5, "a"))

    def test_below_nought(self):
        book = Book(ALONE)
        book.act("a", -5, [])
        self.assert_refused(NoDay, book, lambda: book.act("b", -6, []))
        book.act("b", -5, [])
        book.act("c", -4, [])

    def test_the_first_act_has_any_day(self):
        for day in [-10 ** 59, -1, 0, 1, 10 ** 59]:
            book = Book(ALONE)
            book.act("a", day, [])
            self.assertEqual(book.acts(), [("a", day, None, [])])

    def test_the_days_of_deeds_are_any_days(self):
        book = Book(ALONE)
        deeds = [("change", -100, READ, None), ("change", 100, READ, -200), ("change", 0, READ, 200)]
        book.act("a", 50, deeds)
        more = [("later", "a", 0, -500), ("later", "a", 1, 500)]
        book.act("b", 50, more)
        self.assertEqual(book.acts(), [("a", 50, None, deeds), ("b", 50, None, more)])


class NoSuchAct(Refusing):
    def test_taking_back_the_act_itself_one_that_comes_later_and_none(self):
        book = three_acts()[0]
        for other in ["new", "later", "on", "onee", "", "One", "one ", "0"]:
            self.assert_no_act(other, book, lambda: book.back("new", 9, other))
        book.act("later", 9, [])
        book.back("new", 9, "later")

    def test_in_a_book_without_acts(self):
        book = Book(ALONE)
        self.assert_no_act("a", book, lambda: book.back("a", 1, "a"))
        self.assert_no_act("b", book, lambda: book.back("a", 1, "b"))
        for deed in deeds_of_each_kind("a"):
            self.assert_no_act("a", book, lambda: book.act("a", 1, [deed]))

    def test_each_kind_of_deed(self):
        book = three_acts()[0]
        for name in ["new", "none", "twoo", "tw", "", "TWO", "two "]:
            for deed in deeds_of_each_kind(name):
                with self.subTest(deed=deed):
                    self.assert_no_act(name, book, lambda: book.act("new", 9, [deed]))
                    self.assert_no_act(name, book, lambda: book.act("new", 9, [("change", 1, READ, None), deed]))
                    self.assert_no_act(name, book, lambda: book.act("new", 9, [("drop", "two", 0), deed]))
                    self.assert_no_act(name, book, lambda: book.act("new", 9, [deed, ("change", 1, READ, None)]))

    def test_of_several_the_first_in_the_order_of_the_deeds(self):
        book = three_acts()[0]
        for one in deeds_of_each_kind("zz"):
            for other in deeds_of_each_kind("aa"):
                with self.subTest(one=one, other=other):
                    self.assert_no_act("zz", book, lambda: book.act("new", 9, [one, other]))
                    self.assert_no_act("aa", book, lambda: book.act("new", 9, [other, one]))
                    self.assert_no_act("zz", book, lambda: book.act("new", 9, deeds_of_each_kind("one") + [one, other]))

    def test_a_deed_of_its_own_is_not_ahead_of_it(self):
        book = three_acts()[0]
        deeds = [("change", 50, READ, None), ("later", "new", 0, 60)]
        self.assert_no_act("new", book, lambda: book.act("new", 9, deeds))

    def test_a_number_that_no_deed_has_is_not_looked_at(self):
        book = three_acts()[0]
        for name in ["one", "two", "three"]:
            deeds = []
            for number in [0, 1, 2, 77, 10 ** 50]:
                deeds += [("later", name, number, 9), ("instead", name, number, READ), ("drop", name, number)]
            book.act("by" + name, 9, deeds)
            self.assertEqual(book.acts()[-1], ("by" + name, 9, None, deeds))

    def test_each_act_ahead_may_be_named(self):
        for name in ["one", "two", "three"]:
            book, expected = three_acts()
            book.act("new", 4, deeds_of_each_kind(name))
            book.back("newer", 4, name)
            self.assertEqual([act[0] for act in book.acts()], ["one", "two", "three", "new", "newer"])

    def test_a_change_names_no_act(self):
        book = Book(ALONE)
        book.act("a", 1, [("change", 5, READ, None), ("change", 6, READ, 6)])
        self.assertEqual(len(book.acts()), 1)


class Order(Refusing):
    """Where several refusals hold at once, the first one of name, twice, day, act."""

    def test_no_name_ahead_of_all(self):
        book = three_acts()[0]
        for name in ["", "One", "abcdefghi", None, 7, ["one"]]:
            for day in [9, 0]:
                self.assert_refused(NoName, book, lambda: book.act(name, day, [("drop", "none", 0)]))
                self.assert_refused(NoName, book, lambda: book.act(name, day, []))
                self.assert_refused(NoName, book, lambda: book.back(name, day, "none"))
                self.assert_refused(NoName, book, lambda: book.back(name, day, name))

    def test_twice_ahead_of_day_and_act(self):
        book = three_acts()[0]
        for name in ["one", "two", "three"]:
            for day in [9, 0]:
                self.assert_refused(Twice, book, lambda: book.act(name, day, [("drop", "none", 0)]))
                self.assert_refused(Twice, book, lambda: book.act(name, day, []))
                self.assert_refused(Twice, book, lambda: book.back(name, day, "none"))
                self.assert_refused(Twice, book, lambda: book.back(name, day, name))

    def test_day_ahead_of_act(self):
        book = three_acts()[0]
        for deed in deeds_of_each_kind("none") + deeds_of_each_kind("new"):
            self.assert_refused(NoDay, book, lambda: book.act("new", 3, [deed]))
        for other in ["none", "new"]:
            self.assert_refused(NoDay, book, lambda: book.back("new", 3, other))

    def test_behind_a_refusal_the_name_may_be_used(self):
        book, expected = three_acts()
        self.assert_refused(NoDay, book, lambda: book.act("new", 3, []))
        self.assert_refused(NoDay, book, lambda: book.back("new", 3, "one"))
        self.assert_no_act("none", book, lambda: book.act("new", 100, [("drop", "none", 0)]))
        self.assert_no_act("new", book, lambda: book.back("new", 100, "new"))
        # The day of what was refused doesn't stand either.
        book.act("new", 4, [("change", 1, READ, None)])
        self.assertEqual(book.acts(), expected + [("new", 4, None, [("change", 1, READ, None)])])


if __name__ == "__main__":
    unittest.main()
