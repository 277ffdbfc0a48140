"""Where a place of one day's text leads, and from where a place of a later day's text comes."""

import unittest

from codemend.acts import Book
from codemend.changes import Anew, LeaveOut, PutIn, Read, Swap
from codemend.errors import MendError, NoDay, NoPlace
from codemend.telling import story, text_of
from codemend.trees import node_at, places
from codemend.ways import comes_from, leads_to
from codemend.counting import what_counts
from books import book_of, chance_book, kept, one_act
from samples import ALONE, MISSING_PLACES, SAMPLE_PLACES, sample


def lettered():
    """A tree whose labels change much by numbering anew, some to labels that others of it had."""
    return ("", ("top",), (
        ("1a", ("p",), (("2", ("pa",), ()), ("2b", ("pb",), (("3", ("pc",), ()),)))),
        ("2", ("q",), (("1", ("qa",), ()), ("4", ("qb",), ()))),
        ("3", ("r",), (("3a", ("ra",), ()),)),
        ("10", ("s",), ()),
    ))


class Checked(unittest.TestCase):
    def check(self, tree, changes, leads, comes):
        """Of a book with the changes on the days 1, 2 and so on: all ways from day 0 to the last day, and back."""
        book = one_act(tree, [(day, change) for day, change in enumerate(changes, start=1)])
        before = kept(book)
        later = len(changes)
        self.assertEqual(text_of(book, 0), tree)
        self.assertEqual([place for place, told in leads], places(tree))
        self.assertEqual([place for place, told in comes], places(text_of(book, later)))
        for place, told in leads:
            with self.subTest(leads=place):
                self.assertEqual(leads_to(book, place, 0, later), told)
                self.assertIs(type(leads_to(book, place, 0, later)), tuple)
        for place, told in comes:
            with self.subTest(comes=place):
                self.assertEqual(comes_from(book, place, 0, later), told)
                self.assertIs(type(comes_from(book, place, 0, later)), tuple)
        self.assertEqual(kept(book), before)

    def check_stays(self, tree, changes):
        self.check(tree, changes, stays(places(tree)), stays(places(tree)))


def stays(some):
    return [(place, ("at", place)) for place in some]


class OneChange(Checked):
    def test_words_alone_leave_all_at_its_place(self):
        self.check_stays(sample(), [Read(("1",), ("new",))])
        self.check_stays(sample(), [Read((), ())])
        self.check_stays(sample(), [Swap(("2a",), ("two",), ("a", "b"))])
        self.check_stays(sample(), [Swap(("1", "1a", "2"), ("deepest",), ())])

    def test_no_changes_at_all(self):
        for tree in [ALONE, sample(), lettered()]:
            self.check_stays(tree, [])
            book = Book(tree)
            for place in places(tree):
                self.assertEqual(leads_to(book, place, -3, 8), ("at", place))
                self.assertEqual(comes_from(book, place, -3, 8), ("at", place))

    def test_a_node_put_in(self):
        node = ("1aa", ("n",), (("1", (), ()), ("2", (), (("2", (), ()),))))
        for above in [(), ("1",), ("2a",), ("1", "1a", "2")]:
            top = above + ("1aa",)
            new = [top, top + ("1",), top + ("2",), top + ("2", "2")]
            comes = []
            for place in places(PutIn(above, node).done(sample())):
                comes.append((place, ("new", "a", 0, place) if place in new else ("at", place)))
            self.check(sample(), [PutIn(above, node)], stays(SAMPLE_PLACES), comes)

    def test_a_place_left_out_one_above_it_and_one_beside_it(self):
        # Left out are the place itself, and so all beneath it; what is beside and above it stays.
        for place, gone in [
            (("1",), [("1",), ("1", "1"), ("1", "1a"), ("1", "1a", "2"), ("1", "2")]),
            (("1", "1a"), [("1", "1a"), ("1", "1a", "2")]), (("1", "1"), [("1", "1")]),
            (("1", "1a", "2"), [("1", "1a", "2")]), (("2",), [("2",), ("2", "1"), ("2", "10")]),
            (("10",), [("10",), ("10", "2")]), (("2a",), [("2a",)]), (("10", "2"), [("10", "2")]),
        ]:
            leads = [(here, ("gone", "a", 0) if here in gone else ("at", here)) for here in SAMPLE_PLACES]
            self.check(sample(), [LeaveOut(place)], leads, stays([here for here in SAMPLE_PLACES if here not in gone]))

    def test_the_whole_is_never_left_out(self):
        self.check_stays(sample(), [LeaveOut(())])

    def check_numbered(self, tree, place, moved):
        """By Anew of the place: what is moved goes where it is told, all else stays, and so back."""
        leads = [(here, ("at", moved.get(here, here))) for here in places(tree)]
        back = {there: here for here, there in moved.items()}
        after = places(Anew(place).done(tree))
        self.check(tree, [Anew(place)], leads, [(there, ("at", back.get(there, there))) for there in after])

    def test_numbered_anew_right_above_and_further_above(self):
        self.check_numbered(lettered(), (), {
            ("1a",): ("1",), ("1a", "2"): ("1", "2"), ("1a", "2b"): ("1", "2b"), ("1a", "2b", "3"): ("1", "2b", "3"),
            ("10",): ("4",),
        })
        self.check_numbered(lettered(), ("1a",), {
            ("1a", "2"): ("1a", "1"), ("1a", "2b"): ("1a", "2"), ("1a", "2b", "3"): ("1a", "2", "3"),
        })
        self.check_numbered(lettered(), ("1a", "2b"), {("1a", "2b", "3"): ("1a", "2b", "1")})
        self.check_numbered(lettered(), ("2",), {("2", "4"): ("2", "2")})
        self.check_numbered(lettered(), ("3",), {("3", "3a"): ("3", "1")})

    def test_numbered_anew_with_kids_that_take_labels_of_one_another(self):
        kids = (("2", ("a",), (("7", (), ()),)), ("3", ("b",), (("7", (), ()),)), ("3a", ("c",), (("7", (), ()),)),
                ("4", ("d",), ()), ("5", (), ()))
        self.check_numbered(("", (), kids), (), {
            ("2",): ("1",), ("2", "7"): ("1", "7"), ("3",): ("2",), ("3", "7"): ("2", "7"), ("3a",): ("3",),
            ("3a", "7"): ("3", "7"),
        })
        # The other way: each takes a higher label, which one of the others had.
        kids = (("1", ("a",), ()), ("1a", ("b",), (("9", (), ()),)), ("2", ("c",), (("9", (), ()),)), ("3", (), ()))
        self.check_numbered(("", (), kids), (), {
            ("1a",): ("2",), ("1a", "9"): ("2", "9"), ("2",): ("3",), ("2", "9"): ("3", "9"), ("3",): ("4",),
        })

    def test_numbered_anew_with_letters_and_more_than_nine_kids(self):
        labels = ["1", "1a", "1ab", "1b", "2", "2zz", "3", "9", "10", "10a", "11", "100"]
        tree = ("", (), (("5", (), tuple([(label, (label[0],), ()) for label in labels])),))
        self.check_numbered(tree, ("5",), {
            ("5", label): ("5", str(number)) for number, label in enumerate(labels, start=1)
        })

    def test_numbered_anew_at_the_place_itself_and_beside_it(self):
        book = one_act(lettered(), [(1, Anew(("1a",)))])
        for place in [(), ("1a",), ("2",), ("2", "1"), ("2", "4"), ("3", "3a"), ("10",)]:
            self.assertEqual(leads_to(book, place, 0, 1), ("at", place))
            self.assertEqual(comes_from(book, place, 0, 1), ("at", place))

    def test_numbered_anew_without_kids_and_with_good_labels(self):
        self.check_numbered(lettered(), ("10",), {})
        self.check_numbered(("", (), (("1", (), ()), ("2", (), ()))), (), {})
        self.check_numbered(ALONE, (), {})

    def test_a_deep_place(self):
        tree = ("", (), ())
        for label in ["9", "8", "7", "6", "5", "4", "3", "2"]:
            tree = ("", (), ((label,) + tree[1:],))
        deepest = ("2", "3", "4", "5", "6", "7", "8", "9")
        for length in range(8):
            moved = {}
            for end in range(length + 1, 9):
                moved[deepest[:end]] = deepest[:length] + ("1",) + deepest[length + 1:end]
            self.check_numbered(tree, deepest[:length], moved)


class SeveralChanges(Checked):
    def test_numbered_anew_at_several_levels(self):
        changes = [Anew(("1a",)), Anew(()), Anew(("1", "2"))]
        self.check(lettered(), changes, [
            ((), ("at", ())), (("1a",), ("at", ("1",))), (("1a", "2"), ("at", ("1", "1"))),
            (("1a", "2b"), ("at", ("1", "2"))), (("1a", "2b", "3"), ("at", ("1", "2", "1"))),
            (("2",), ("at", ("2",))), (("2", "1"), ("at", ("2", "1"))), (("2", "4"), ("at", ("2", "4"))),
            (("3",), ("at", ("3",))), (("3", "3a"), ("at", ("3", "3a"))), (("10",), ("at", ("4",))),
        ], [
            ((), ("at", ())), (("1",), ("at", ("1a",))), (("1", "1"), ("at", ("1a", "2"))),
            (("1", "2"), ("at", ("1a", "2b"))), (("1", "2", "1"), ("at", ("1a", "2b", "3"))),
            (("2",), ("at", ("2",))), (("2", "1"), ("at", ("2", "1"))), (("2", "4"), ("at", ("2", "4"))),
            (("3",), ("at", ("3",))), (("3", "3a"), ("at", ("3", "3a"))), (("4",), ("at", ("10",))),
        ])

    def test_left_out_and_put_in_again(self):
        tree = ("", (), (("1", ("a",), (("1", (), ()),)), ("2", (), ())))
        changes = [LeaveOut(("1",)), PutIn((), ("1", ("a",), (("1", (), ()),)))]
        self.check(tree, changes, [
            ((), ("at", ())), (("1",), ("gone", "a", 0)), (("1", "1"), ("gone", "a", 0)), (("2",), ("at", ("2",))),
        ], [
            ((), ("at", ())), (("1",), ("new", "a", 1, ("1",))), (("1", "1"), ("new", "a", 1, ("1", "1"))),
            (("2",), ("at", ("2",))),
        ])
        # Twice over: the first that left it out, and the last that put it in.
        self.check(tree, changes + changes, [
            ((), ("at", ())), (("1",), ("gone", "a", 0)), (("1", "1"), ("gone", "a", 0)), (("2",), ("at", ("2",))),
        ], [
            ((), ("at", ())), (("1",), ("new", "a", 3, ("1",))), (("1", "1"), ("new", "a", 3, ("1", "1"))),
            (("2",), ("at", ("2",))),
        ])

    def test_left_out_and_its_place_taken_by_one_beside_it(self):
        tree = ("", (), (("1", ("a",), ()), ("2", ("b",), (("5", (), ()),)), ("3", (), ())))
        self.check(tree, [LeaveOut(("1",)), Anew(()), LeaveOut(("1", "5"))], [
            ((), ("at", ())), (("1",), ("gone", "a", 0)), (("2",), ("at", ("1",))), (("2", "5"), ("gone", "a", 2)),
            (("3",), ("at", ("2",))),
        ], [
            ((), ("at", ())), (("1",), ("at", ("2",))), (("2",), ("at", ("3",))),
        ])

    def test_put_in_with_places_beneath_then_numbered_anew_then_gone(self):
        tree = ("", (), (("3", (), ()), ("7", (), ())))
        node = ("5", ("n",), (("2", (), ()), ("4", (), (("6", (), ()),))))
        changes = [PutIn((), node), Anew(()), Anew(("2",)), LeaveOut(("2", "1")), LeaveOut(("2",))]
        base = [((), ("at", ())), (("3",), ("at", ("1",)))]
        last = [(("7",), ("at", ("3",)))]
        back = [((), ("at", ())), (("1",), ("at", ("3",)))]
        end = [(("3",), ("at", ("7",)))]
        self.check(tree, changes[:1], [((), ("at", ())), (("3",), ("at", ("3",))), (("7",), ("at", ("7",)))], [
            ((), ("at", ())), (("3",), ("at", ("3",))), (("5",), ("new", "a", 0, ("5",))),
            (("5", "2"), ("new", "a", 0, ("5", "2"))), (("5", "4"), ("new", "a", 0, ("5", "4"))),
            (("5", "4", "6"), ("new", "a", 0, ("5", "4", "6"))), (("7",), ("at", ("7",))),
        ])
        # The place that is told is the one right behind the change that put it in.
        self.check(tree, changes[:3], base + last, back + [
            (("2",), ("new", "a", 0, ("5",))), (("2", "1"), ("new", "a", 0, ("5", "2"))),
            (("2", "2"), ("new", "a", 0, ("5", "4"))), (("2", "2", "6"), ("new", "a", 0, ("5", "4", "6"))),
        ] + end)
        self.check(tree, changes[:4], base + last, back + [
            (("2",), ("new", "a", 0, ("5",))), (("2", "2"), ("new", "a", 0, ("5", "4"))),
            (("2", "2", "6"), ("new", "a", 0, ("5", "4", "6"))),
        ] + end)
        self.check(tree, changes, base + last, back + end)
        # From behind it on it is a place like others.
        book = one_act(tree, [(day, change) for day, change in enumerate(changes, start=1)])
        self.assertEqual(leads_to(book, ("5",), 1, 4), ("at", ("2",)))
        self.assertEqual(leads_to(book, ("5", "2"), 1, 3), ("at", ("2", "1")))
        self.assertEqual(leads_to(book, ("5", "2"), 1, 4), ("gone", "a", 3))
        self.assertEqual(leads_to(book, ("5", "4", "6"), 1, 4), ("at", ("2", "2", "6")))
        self.assertEqual(leads_to(book, ("5", "2"), 1, 5), ("gone", "a", 3))
        self.assertEqual(leads_to(book, ("5", "4", "6"), 1, 5), ("gone", "a", 4))
        self.assertEqual(comes_from(book, ("2", "2", "6"), 1, 4), ("at", ("5", "4", "6")))
        self.assertEqual(comes_from(book, ("2", "2", "6"), 2, 4), ("at", ("2", "4", "6")))

    def test_one_put_in_beneath_one_that_was_put_in(self):
        changes = [PutIn((), ("2", (), ())), PutIn(("2",), ("3", (), ())), Anew(()), Anew(("1",))]
        self.check(ALONE, changes, [((), ("at", ()))], [
            ((), ("at", ())), (("1",), ("new", "a", 0, ("2",))), (("1", "1"), ("new", "a", 1, ("2", "3"))),
        ])

    def test_one_put_in_beside_and_above_those_that_were_there(self):
        tree = ("", (), (("2", (), (("2", (), ()),)),))
        changes = [PutIn(("2",), ("1", (), ())), PutIn((), ("1", (), (("2", (), ()),))), Anew(())]
        self.check(tree, changes, [
            ((), ("at", ())), (("2",), ("at", ("2",))), (("2", "2"), ("at", ("2", "2"))),
        ], [
            ((), ("at", ())), (("1",), ("new", "a", 1, ("1",))), (("1", "2"), ("new", "a", 1, ("1", "2"))),
            (("2",), ("at", ("2",))), (("2", "1"), ("new", "a", 0, ("2", "1"))), (("2", "2"), ("at", ("2", "2"))),
        ])

    def test_one_passed_over_leads_nothing_on(self):
        tree = ("", (), (("2", ("x",), ()), ("4", (), ())))
        # Each one behind Read leads nothing on: it does not fit, whatever would come of it elsewhere.
        for change in [LeaveOut(("3",)), LeaveOut(()), PutIn((), ("2", ("n",), ())), PutIn(("3",), ("1", (), ())),
                       Anew(("3",)), Swap(("2",), ("y",), ()), Read(("3",), ())]:
            self.check_stays(tree, [Read((), ("w",)), change])
        # One that fits only behind another one, which is in force later.
        book = one_act(tree, [(2, PutIn((), ("3", (), ()))), (1, LeaveOut(("3",))), (1, Anew(("3",)))])
        self.assertEqual(comes_from(book, ("3",), 0, 2), ("new", "a", 0, ("3",)))
        # A second putting in that is passed over is not the one that is told.
        book = one_act(ALONE, [(1, PutIn((), ("3", (), ()))), (2, PutIn((), ("3", (), ())))])
        self.assertEqual(comes_from(book, ("3",), 0, 2), ("new", "a", 0, ("3",)))
        self.assertEqual(comes_from(book, ("3",), 1, 2), ("at", ("3",)))
        self.assertEqual(leads_to(book, ("3",), 1, 2), ("at", ("3",)))
        # A second leaving out likewise.
        book = one_act(tree, [(1, LeaveOut(("4",))), (2, LeaveOut(("4",)))])
        self.assertEqual(leads_to(book, ("4",), 0, 2), ("gone", "a", 0))

    def test_the_name_and_number_of_the_change(self):
        tree = ("", (), (("1", (), ()), ("2", (), ())))
        rows = [
            ("zz", 0, [("change", 9, Read((), ()), None), ("change", 5, LeaveOut(("1",)), None)]),
            ("b", 0, [("drop", "zz", 9), ("drop", "zz", 8), ("change", 4, PutIn((), ("3", (), ())), None)]),
            ("a", 1, [("change", 6, LeaveOut(("3",)), None), ("change", 7, PutIn((), ("1", (), ())), None)]),
        ]
        book = book_of(tree, rows)
        self.assertEqual(leads_to(book, ("1",), 0, 9), ("gone", "zz", 1))
        self.assertEqual(comes_from(book, ("3",), 0, 5), ("new", "b", 2, ("3",)))
        self.assertEqual(leads_to(book, ("3",), 4, 6), ("gone", "a", 0))
        self.assertEqual(comes_from(book, ("1",), 0, 9), ("new", "a", 1, ("1",)))
        self.assertEqual(comes_from(book, ("1",), 6, 9), ("new", "a", 1, ("1",)))
        self.assertEqual(comes_from(book, ("1",), 7, 9), ("at", ("1",)))

    def test_in_the_order_of_days_acts_and_numbers(self):
        tree = ("", (), (("2", ("x",), ()), ("5", (), ())))
        # On one day: numbered anew by the act that is ahead, so the second place is the one that goes.
        book = book_of(tree, [
            ("b", 0, [("change", 3, Anew(()), None)]), ("a", 0, [("change", 3, LeaveOut(("2",)), None)]),
        ])
        self.assertEqual(leads_to(book, ("2",), 0, 3), ("at", ("1",)))
        self.assertEqual(leads_to(book, ("5",), 0, 3), ("gone", "a", 0))
        book = one_act(tree, [(3, LeaveOut(("2",))), (3, Anew(()))])
        self.assertEqual(leads_to(book, ("2",), 0, 3), ("gone", "a", 0))
        self.assertEqual(leads_to(book, ("5",), 0, 3), ("at", ("1",)))
        book = one_act(tree, [(3, LeaveOut(("2",))), (2, Anew(()))])
        self.assertEqual(leads_to(book, ("2",), 0, 3), ("at", ("1",)))


class Between(Checked):
    def book(self):
        """Numbered anew on 3, a place put in on 5, one left out on 7."""
        tree = ("", (), (("2", ("x",), ()), ("5", (), ())))
        return one_act(tree, [(3, Anew(())), (5, PutIn((), ("4", (), ()))), (7, LeaveOut(("2",)))])

    def test_only_changes_behind_the_day_and_up_to_the_later_one_lead_on(self):
        book = self.book()
        for place, day, later, told in [
            (("2",), 0, 2, ("at", ("2",))), (("2",), 2, 2, ("at", ("2",))), (("2",), 2, 3, ("at", ("1",))),
            (("2",), 3, 3, ("at", ("2",))), (("2",), 3, 6, ("at", ("2",))), (("2",), 3, 7, ("gone", "a", 2)),
            (("5",), 2, 6, ("at", ("2",))), (("5",), 2, 7, ("gone", "a", 2)), (("2",), 6, 7, ("gone", "a", 2)),
            (("1",), 3, 9, ("at", ("1",))), (("1",), 7, 9, ("at", ("1",))), (("4",), 5, 9, ("at", ("4",))),
        ]:
            with self.subTest(place=place, day=day, later=later):
                self.assertEqual(leads_to(book, place, day, later), told)
        for place, day, later, told in [
            (("1",), 3, 5, ("at", ("1",))), (("1",), 2, 3, ("at", ("2",))), (("2",), 2, 3, ("at", ("5",))),
            (("4",), 4, 5, ("new", "a", 1, ("4",))), (("4",), 5, 5, ("at", ("4",))),
            (("4",), 0, 9, ("new", "a", 1, ("4",))), (("4",), 6, 9, ("at", ("4",))), (("1",), 0, 9, ("at", ("2",))),
            (("1",), 5, 9, ("at", ("1",))),
        ]:
            with self.subTest(place=place, day=day, later=later):
                self.assertEqual(comes_from(book, place, day, later), told)

    def test_the_same_day_twice(self):
        book = self.book()
        for day in range(-1, 10):
            for place in places(text_of(book, day)):
                self.assertEqual(leads_to(book, place, day, day), ("at", place))
                self.assertEqual(comes_from(book, place, day, day), ("at", place))

    def test_the_tree_itself(self):
        book = one_act(lettered(), [(1, Anew(())), (2, LeaveOut(())), (3, Read((), ())), (4, PutIn((), ("9", (), ()))),
                                    (5, LeaveOut(("9",)))])
        for day in range(7):
            for later in range(day, 7):
                self.assertEqual(leads_to(book, (), day, later), ("at", ()))
                self.assertEqual(comes_from(book, (), day, later), ("at", ()))

    def test_days_below_nought(self):
        book = one_act(lettered(), [(-4, Anew(())), (-2, LeaveOut(("1",)))], -9)
        self.assertEqual(leads_to(book, ("1a",), -5, -3), ("at", ("1",)))
        self.assertEqual(leads_to(book, ("1a",), -5, 0), ("gone", "a", 1))
        self.assertEqual(comes_from(book, ("4",), -5, 10 ** 60), ("at", ("10",)))
        self.assertEqual(comes_from(book, ("4",), -10 ** 60, -2), ("at", ("10",)))


class LeftOut(unittest.TestCase):
    """The later day stands for seen and begun where they are left out."""

    def book(self):
        # Made on 6, the act a reaches back to 2 and 3; the numbering anew is for cases begun on 5 or later.
        tree = ("", (), (("2", ("x",), ()), ("5", (), ())))
        return book_of(tree, [
            ("b", 0, [("change", 4, Anew(()), 5)]),
            ("a", 6, [("change", 2, PutIn((), ("9", (), ())), None), ("change", 3, LeaveOut(("2",)), None)]),
        ])

    def test_seen(self):
        book = self.book()
        for later, told in [(2, ("at", ("2",))), (5, ("at", ("1",))), (6, ("gone", "a", 1)), (9, ("gone", "a", 1))]:
            self.assertEqual(leads_to(book, ("2",), 1, later), told)
            self.assertEqual(leads_to(book, ("2",), 1, later, None, None), told)
            self.assertEqual(leads_to(book, ("2",), 1, later, later, later), told)
        # The text of the earlier day is seen from the later one too: it has a place that is put in by then alone.
        self.assertEqual(leads_to(book, ("9",), 2, 6), ("at", ("2",)))
        with self.assertRaises(NoPlace):
            leads_to(book, ("9",), 2, 5)
        self.assertEqual(comes_from(book, ("2",), 1, 6), ("new", "a", 0, ("9",)))
        self.assertEqual(comes_from(book, ("2",), 2, 6), ("at", ("9",)))
        self.assertEqual(comes_from(book, ("2",), 1, 5), ("at", ("5",)))

    def test_begun(self):
        book = self.book()
        # For a case begun on the later day: on 4 the kids are not numbered anew, on 5 they are.
        self.assertEqual(leads_to(book, ("5",), 1, 4), ("at", ("5",)))
        self.assertEqual(leads_to(book, ("5",), 1, 5), ("at", ("2",)))
        self.assertEqual(leads_to(book, ("5",), 1, 4, 4, 5), ("at", ("2",)))
        self.assertEqual(leads_to(book, ("5",), 1, 5, 5, 4), ("at", ("5",)))
        # Of the earlier day's text it is the same case, so it was numbered anew by then.
        self.assertEqual(leads_to(book, ("2",), 4, 5), ("at", ("2",)))
        with self.assertRaises(NoPlace):
            leads_to(book, ("5",), 4, 5)
        self.assertEqual(comes_from(book, ("2",), 3, 5), ("at", ("5",)))
        self.assertEqual(comes_from(book, ("2",), 4, 5), ("at", ("2",)))
        self.assertEqual(comes_from(book, ("5",), 3, 4), ("at", ("5",)))

    def test_seen_told(self):
        book = self.book()
        self.assertEqual(leads_to(book, ("2",), 1, 9, 5), ("at", ("1",)))
        self.assertEqual(leads_to(book, ("2",), 1, 9, seen=5), ("at", ("1",)))
        self.assertEqual(leads_to(book, ("2",), 1, 3, 6), ("gone", "a", 1))
        self.assertEqual(leads_to(book, ("2",), 1, 2, 6), ("at", ("2",)))
        self.assertEqual(comes_from(book, ("9",), 1, 3, 6), ("new", "a", 0, ("9",)))
        self.assertEqual(comes_from(book, ("9",), 1, 3, seen=6), ("new", "a", 0, ("9",)))
        self.assertEqual(leads_to(book, ("2",), 1, 9, -1), ("at", ("2",)))
        self.assertEqual(leads_to(book, ("2",), 1, 9, 0), ("at", ("1",)))

    def test_begun_told(self):
        book = self.book()
        self.assertEqual(leads_to(book, ("5",), 1, 9, begun=4), ("at", ("5",)))
        self.assertEqual(leads_to(book, ("5",), 1, 9, None, 4), ("at", ("5",)))
        self.assertEqual(leads_to(book, ("5",), 1, 9, begun=5), ("at", ("1",)))
        self.assertEqual(leads_to(book, ("5",), 1, 9, begun=0), ("at", ("5",)))
        self.assertEqual(comes_from(book, ("1",), 1, 9, begun=7), ("at", ("5",)))
        self.assertEqual(comes_from(book, ("5",), 1, 9, None, 4), ("at", ("5",)))
        self.assertEqual(comes_from(book, ("2",), 1, 9, begun=7), ("new", "a", 0, ("9",)))

    def test_both_told_by_name(self):
        book = self.book()
        told = leads_to(book=book, place=("5",), day=1, later=4, seen=6, begun=3)
        self.assertEqual(told, ("at", ("5",)))
        told = comes_from(book=book, place=("1",), day=1, later=4, seen=6, begun=5)
        self.assertEqual(told, ("at", ("5",)))


class Refused(unittest.TestCase):
    def assert_no_place(self, place, ask, *asked):
        with self.subTest(ask=ask.__name__, place=place, asked=asked):
            with self.assertRaises(NoPlace) as caught:
                ask(asked[0], place, *asked[1:])
            self.assertEqual(caught.exception.place, place)
            self.assertIsInstance(caught.exception, MendError)

    def test_no_day(self):
        book = one_act(sample(), [(3, Anew(()))])
        for ask in [leads_to, comes_from]:
            for day, later in [(1, 0), (0, -1), (5, 4), (-4, -5), (10 ** 60, -10 ** 60)]:
                # Ahead of NoPlace, and whatever seen and begun are.
                for place in [(), ("1",), ("99",)]:
                    for rest in [(), (9,), (9, 9), (-9, -9)]:
                        with self.subTest(ask=ask.__name__, day=day, later=later, place=place, rest=rest):
                            with self.assertRaises(NoDay) as caught:
                                ask(book, place, day, later, *rest)
                            self.assertIsInstance(caught.exception, MendError)
            self.assertEqual(ask(book, (), 4, 4), ("at", ()))

    def test_no_place(self):
        book = Book(sample())
        for place in MISSING_PLACES:
            for ask in [leads_to, comes_from]:
                self.assert_no_place(place, ask, book, 0, 0)
                self.assert_no_place(place, ask, book, 0, 5)
                self.assert_no_place(place, ask, book, 0, 5, 2, 2)

    def test_a_place_of_the_other_text(self):
        tree = ("", (), (("1", (), ()), ("5", (), (("3", (), ()),))))
        book = one_act(tree, [(2, LeaveOut(("1",))), (3, PutIn((), ("7", (), (("1", (), ()),)))), (4, Anew(()))])
        # Only the later text has these.
        for place in [("2",), ("2", "1"), ("1", "3")]:
            self.assert_no_place(place, leads_to, book, 0, 4)
            self.assertIsInstance(comes_from(book, place, 0, 4), tuple)
        # Only the earlier one has these.
        for place in [("5",), ("5", "3")]:
            self.assert_no_place(place, comes_from, book, 0, 4)
            self.assertIsInstance(leads_to(book, place, 0, 4), tuple)
        # Only one of a day between has these.
        for place in [("7",), ("7", "1")]:
            self.assert_no_place(place, leads_to, book, 0, 4)
            self.assert_no_place(place, comes_from, book, 0, 4)

    def test_nothing_is_kept_of_a_refusal(self):
        book = one_act(sample(), [(3, Anew(()))])
        before = kept(book)
        self.assert_no_place(("99",), leads_to, book, 0, 4)
        self.assert_no_place(("99",), comes_from, book, 0, 4)
        self.assertEqual(kept(book), before)
        self.assertEqual(leads_to(book, ("2a",), 0, 4), ("at", ("3",)))


def stamped(node, place, stamp):
    """The node with a stamp of its own at each place in the stead of its words."""
    kids = tuple(stamped(kid, place + (kid[0],), stamp) for kid in node[2])
    return (node[0], (stamp + (place,),), kids)


def stamps_by_hand(book, later, seen, begun):
    """For the first tree and for each change on the way (day, name, number): each stamp with its place by then."""
    tree = stamped(book.first(), (), ("first",))
    reasons = {(name, number): why for name, number, why in story(book, later, seen, begun)}
    told = [(None, None, None, {node_at(tree, place)[1][0]: place for place in places(tree)})]
    for day, name, number, change, since in what_counts(book, seen):
        if reasons.get((name, number), "not in force") is None:
            if isinstance(change, PutIn):
                node = stamped(change.node, change.place + (change.node[0],), (name, number))
                tree = PutIn(change.place, node).done(tree)
            elif isinstance(change, (LeaveOut, Anew)):
                tree = change.done(tree)
            told.append((day, name, number, {node_at(tree, place)[1][0]: place for place in places(tree)}))
    return told


class ByChance(unittest.TestCase):
    def asked(self, seeds):
        for seed in seeds:
            book = chance_book(seed)
            for seen, begun in [(20, 20), (6, 3), (3, 20), (20, 0)]:
                for day, later in [(-3, 14), (2, 8), (5, 5), (6, 14)]:
                    yield book, day, later, seen, begun

    def test_as_stamps_tell_by_hand(self):
        heads = {}
        for book, day, later, seen, begun in self.asked(range(150)):
            rows = stamps_by_hand(book, later, seen, begun)
            ahead = [row for row in rows if row[0] is None or row[0] <= day]
            behind = rows[len(ahead):]
            early = ahead[-1][3]
            late = rows[-1][3]
            self.assertEqual(sorted(early.values()), sorted(places(text_of(book, day, seen, begun))))
            self.assertEqual(sorted(late.values()), sorted(places(text_of(book, later, seen, begun))))
            for stamp, place in early.items():
                if stamp in late:
                    told = ("at", late[stamp])
                else:
                    told = ("gone",) + [row[1:3] for row in behind if stamp not in row[3]][0]
                self.assertEqual(leads_to(book, place, day, later, seen, begun), told)
                heads[("leads", told[0], place == told[1])] = True
            for stamp, place in late.items():
                if stamp in early:
                    told = ("at", early[stamp])
                else:
                    row = [row for row in behind if stamp in row[3]][0]
                    told = ("new", row[1], row[2], row[3][stamp])
                self.assertEqual(comes_from(book, place, day, later, seen, begun), told)
                heads[("comes", told[0], place == told[-1])] = True
        self.assertEqual(len(heads), 7)

    def test_both_ways_about(self):
        for book, day, later, seen, begun in self.asked(range(150, 220)):
            early = places(text_of(book, day, seen, begun))
            late = places(text_of(book, later, seen, begun))
            led = [leads_to(book, place, day, later, seen, begun) for place in early]
            back = [comes_from(book, place, day, later, seen, begun) for place in late]
            for place, told in zip(early, led):
                if told[0] == "at":
                    self.assertEqual(back[late.index(told[1])], ("at", place))
                else:
                    self.assertNotIn(("at", place), back)
                    self.assertIn((told[1], told[2], None), story(book, later, seen, begun))
            for place, told in zip(late, back):
                if told[0] == "at":
                    self.assertEqual(led[early.index(told[1])], ("at", place))
                else:
                    self.assertNotIn(("at", place), led)
                    self.assertIn((told[1], told[2], None), story(book, later, seen, begun))

    def test_by_way_of_a_day_between(self):
        for book, day, later, seen, begun in self.asked(range(220, 260)):
            between = (day + later) // 2
            for place in places(text_of(book, day, seen, begun)):
                told = leads_to(book, place, day, between, seen, begun)
                if told[0] == "at":
                    told = leads_to(book, told[1], between, later, seen, begun)
                self.assertEqual(leads_to(book, place, day, later, seen, begun), told)


if __name__ == "__main__":
    unittest.main()
