"""Which changes are apart, and that such ones may be done in either order."""

import unittest

from codemend.apart import are_apart
from codemend.changes import Anew, LeaveOut, PutIn, Read, Swap
from codemend.trees import is_tree
from samples import ALONE, chain, chain_tree, sample

# What each kind touches, made for the place at which it touches: its words, all from it on, or all beneath it.
WORDS_OF = [lambda place: Swap(place, ("a",), ("b",)), lambda place: Read(place, ("c",))]
FROM_ON = [lambda place: PutIn(place[:-1], (place[-1], ("d",), ())), LeaveOut]
BENEATH = [Anew]

SAME = [(("1",), ("1",)), (("2a", "1"), ("2a", "1")), (("1", "2", "3"), ("1", "2", "3"))]
# The first place is above the second one, right above it or further up.
ABOVE = [
    (("1",), ("1", "2")), (("1",), ("1", "1")), (("3a",), ("3a", "4", "5")), (("1", "2"), ("1", "2", "3")),
    (("1",), ("1",) * 8), (("1",) * 7, ("1",) * 8),
]
BESIDE = [
    (("1",), ("2",)), (("1",), ("1a",)), (("1",), ("10",)), (("1", "2"), ("1", "3")), (("1", "2"), ("2", "2")),
    (("1", "2"), ("2", "1")), (("1",), ("2", "1")), (("1", "2", "3"), ("1", "3", "2")), (("1", "1"), ("11",)),
    (("1", "2", "3"), ("2",)), (("1", "2"), ("10", "2")), (("2", "3"), ("1", "2", "3")),
]


class Table(unittest.TestCase):
    def check(self, expected, ones, others, pairs):
        for one_place, other_place in pairs:
            for make_one in ones:
                for make_other in others:
                    one = make_one(one_place)
                    other = make_other(other_place)
                    with self.subTest(one=(type(one), vars(one)), other=(type(other), vars(other))):
                        self.assertIs(are_apart(one, other), expected)
                        self.assertIs(are_apart(other, one), expected)

    def test_words_and_words(self):
        self.check(False, WORDS_OF, WORDS_OF, SAME)
        self.check(True, WORDS_OF, WORDS_OF, ABOVE)
        self.check(True, WORDS_OF, WORDS_OF, BESIDE)

    def test_words_and_all_from_a_place_on(self):
        self.check(False, WORDS_OF, FROM_ON, SAME)
        self.check(False, FROM_ON, WORDS_OF, ABOVE)
        self.check(True, WORDS_OF, FROM_ON, ABOVE)
        self.check(True, WORDS_OF, FROM_ON, BESIDE)
        self.check(True, FROM_ON, WORDS_OF, BESIDE)

    def test_words_and_all_beneath_a_place(self):
        self.check(True, WORDS_OF, BENEATH, SAME)
        self.check(False, BENEATH, WORDS_OF, ABOVE)
        self.check(True, WORDS_OF, BENEATH, ABOVE)
        self.check(True, WORDS_OF, BENEATH, BESIDE)
        self.check(True, BENEATH, WORDS_OF, BESIDE)

    def test_all_from_two_places_on(self):
        self.check(False, FROM_ON, FROM_ON, SAME)
        self.check(False, FROM_ON, FROM_ON, ABOVE)
        self.check(True, FROM_ON, FROM_ON, BESIDE)

    def test_all_from_a_place_on_and_all_beneath_another_one(self):
        self.check(False, FROM_ON, BENEATH, SAME)
        self.check(False, FROM_ON, BENEATH, ABOVE)
        self.check(False, BENEATH, FROM_ON, ABOVE)
        self.check(True, FROM_ON, BENEATH, BESIDE)
        self.check(True, BENEATH, FROM_ON, BESIDE)

    def test_all_beneath_two_places(self):
        self.check(False, BENEATH, BENEATH, SAME)
        self.check(False, BENEATH, BENEATH, ABOVE)
        self.check(True, BENEATH, BENEATH, BESIDE)


class Named(unittest.TestCase):
    def check(self, expected, one, other):
        with self.subTest(one=(type(one), vars(one)), other=(type(other), vars(other))):
            self.assertIs(are_apart(one, other), expected)
            self.assertIs(are_apart(other, one), expected)

    def test_the_tree_itself(self):
        swap = Swap((), ("a",), ("b",))
        read = Read((), ("a",))
        self.check(False, swap, read)
        for other in [PutIn((), ("1", (), ())), LeaveOut(("1",)), Anew(()), Anew(("1",)), Read(("1",), ())]:
            self.check(True, swap, other)
            self.check(True, read, other)
        for other in [swap, read, PutIn((), ("1", (), ())), PutIn(("1",), ("1", (), ())), LeaveOut(("1",)),
                      LeaveOut(()), Anew(()), Anew(("1",)), Read(("1",), ())]:
            self.check(False, LeaveOut(()), other)
        for other in [PutIn((), ("1", (), ())), PutIn(("1",), ("1", (), ())), LeaveOut(("1",)), LeaveOut(("1", "1")),
                      Anew(()), Anew(("1",)), Read(("1",), ()), Swap(("1", "1"), ("a",), ())]:
            self.check(False, Anew(()), other)

    def test_put_in_by_the_place_of_the_node_that_comes_in(self):
        put_in = PutIn(("1",), ("2", ("w",), (("3", (), ()),)))
        for other in [Read(("1",), ()), Swap(("1",), ("a",), ()), Read((), ()), PutIn(("1",), ("3", (), ())),
                      LeaveOut(("1", "3")), Anew(("1", "3")), PutIn((), ("2", (), ())), LeaveOut(("2",)), Anew(("2",)),
                      Read(("1", "3"), ())]:
            self.check(True, put_in, other)
        for other in [Read(("1", "2"), ()), Swap(("1", "2"), ("a",), ()), Read(("1", "2", "3"), ()),
                      Read(("1", "2", "7"), ()), PutIn(("1",), ("2", (), ())), PutIn(("1", "2"), ("9", (), ())), PutIn((), ("1", (), ())),
                      LeaveOut(("1", "2")), LeaveOut(("1",)), LeaveOut(("1", "2", "3")), LeaveOut(()),
                      Anew(("1", "2")), Anew(("1",)), Anew(()), Anew(("1", "2", "3"))]:
            self.check(False, put_in, other)

    def test_two_nodes_beneath_one_place(self):
        self.check(True, PutIn((), ("1", (), ())), PutIn((), ("2", (), ())))
        self.check(True, PutIn((), ("1", (), ())), PutIn((), ("1a", (), ())))
        self.check(False, PutIn((), ("1", (), ())), PutIn((), ("1", ("unlike",), ())))

    def test_anew_by_what_is_beneath_its_place(self):
        anew = Anew(("1", "2"))
        for other in [Read(("1", "2"), ()), Swap(("1", "2"), ("a",), ()), Read(("1",), ()), Read((), ()),
                      Anew(("1", "3")), PutIn(("1",), ("3", (), ())), LeaveOut(("1", "3"))]:
            self.check(True, anew, other)
        for other in [Read(("1", "2", "1"), ()), Swap(("1", "2", "1", "1"), ("a",), ()),
                      PutIn(("1", "2"), ("5", (), ())), PutIn(("1",), ("2", (), ())), PutIn(("1", "2", "5"), ("5", (), ())),
                      LeaveOut(("1", "2")), LeaveOut(("1", "2", "5")), LeaveOut(("1",)), Anew(("1", "2")), Anew(("1",)),
                      Anew(("1", "2", "5"))]:
            self.check(False, anew, other)

    def test_a_change_and_itself(self):
        for change in [Swap((), ("a",), ()), Read(("1",), ()), PutIn((), ("1", (), ())), LeaveOut(("1",)), Anew(())]:
            self.check(False, change, change)

    def test_what_is_asked_about_is_not_changed(self):
        one = PutIn(("1",), ("2", ("w",), ()))
        other = Swap(("1",), ("a",), ("b",))
        are_apart(one, other)
        self.assertEqual((one.place, one.node), (("1",), ("2", ("w",), ())))
        self.assertEqual((other.place, other.old, other.new), (("1",), ("a",), ("b",)))


def many_places(labels, length):
    """All places of these labels with at most so many of them."""
    told = [()]
    row = [()]
    for _ in range(length):
        row = [place + (label,) for place in row for label in labels]
        told.extend(row)
    return told


def touched(change, universe):
    """The places whose words a change touches, of a universe that goes deeper than the change."""
    if isinstance(change, (Swap, Read)):
        return {change.place}
    if isinstance(change, Anew):
        return {place for place in universe if place[:len(change.place)] == change.place and place != change.place}
    top = change.place if isinstance(change, LeaveOut) else change.place + (change.node[0],)
    return {place for place in universe if place[:len(top)] == top}


class Common(unittest.TestCase):
    def test_apart_where_no_place_is_touched_by_both(self):
        universe = many_places(["1", "2"], 5)
        changes = []
        for place in many_places(["1", "2"], 3):
            changes += [Swap(place, ("a",), ()), Read(place, ()), LeaveOut(place), Anew(place)]
            changes += [PutIn(place, ("1", (), ())), PutIn(place, ("2", (), ()))]
        parts = [touched(change, universe) for change in changes]
        for one, one_part in zip(changes, parts):
            for other, other_part in zip(changes, parts):
                self.assertIs(are_apart(one, other), not one_part & other_part)


def some_changes():
    """Changes of each kind at places that are there, at such that are not, and at such that others bring or take."""
    changes = []
    further = [("1a",), ("3",), ("10",), ("1", "1a"), ("1", "1a", "2"), ("3", "1"), ("10", "2")]
    for place in many_places(["1", "2"], 2) + further:
        changes += [Swap(place, ("one",), ("a", "one")), Swap(place, ("inner",), ()), Swap(place, ("a",), ("ten",))]
        changes += [Read(place, ("one",)), Read(place, ("a", "a"))]
        changes += [PutIn(place, ("1", ("one",), ())), PutIn(place, ("3", ("a",), (("1", ("one",), ()),)))]
        changes += [PutIn(place, chain(7, "2aa")), PutIn(place, chain(8, "4"))]
        changes += [LeaveOut(place), Anew(place)]
    return changes


def some_trees():
    return [
        ALONE,
        sample(),
        ("", ("one",), (("1", ("one", "a"), (("1", ("a",), ()), ("2", ("one",), ()))), ("3", (), (("1", (), ()),)))),
        ("", ("a", "a"), (
            ("1a", ("inner",), (("1", (), ()),)), ("2", ("inner", "inner"), (("2", ("a",), ()),)), ("10", (), ()),
        )),
        chain_tree(9),
        ("", (), (chain(8, "2"), chain(7, "10"))),
    ]


class EitherOrder(unittest.TestCase):
    def test_each_has_the_same_reason_behind_the_other_and_either_order_leads_to_the_same_tree(self):
        changes = some_changes()
        pairs = [(one, other) for one in changes for other in changes if are_apart(one, other)]
        both_fit = 0
        kinds = {}
        for tree in some_trees():
            reasons = {change: change.reason(tree) for change in changes}
            trees = {change: change.done(tree) for change in changes if reasons[change] is None}
            for one, other in pairs:
                if other in trees:
                    self.assertEqual(one.reason(trees[other]), reasons[one], (vars(one), vars(other), tree))
                if one in trees and other in trees:
                    both_fit += 1
                    kinds[(type(one), type(other))] = True
                    self.assertEqual(one.done(trees[other]), other.done(trees[one]), (vars(one), vars(other), tree))
        # So that this doesn't hold of nothing: each kind was met with each.
        self.assertEqual(len(kinds), 25)
        self.assertGreater(both_fit, 5000)

    def test_written_out(self):
        tree = ("", ("a",), (("2", ("b", "c"), (("5", (), ()),)), ("4", (), ())))
        both = ("", ("a",), (("2", ("n", "c"), (("1", (), ()),)), ("4", (), ())))
        swap = Swap(("2",), ("b",), ("n",))
        anew = Anew(("2",))
        self.assertIs(are_apart(swap, anew), True)
        self.assertEqual(anew.done(swap.done(tree)), both)
        self.assertEqual(swap.done(anew.done(tree)), both)
        self.assertIs(is_tree(both), True)

    def test_two_nodes_put_in_beneath_one_place(self):
        one = PutIn((), ("3", ("w",), ()))
        other = PutIn((), ("10", (), ()))
        tree = ("", (), (("4", (), ()),))
        both = ("", (), (("3", ("w",), ()), ("4", (), ()), ("10", (), ())))
        self.assertEqual(one.done(other.done(tree)), both)
        self.assertEqual(other.done(one.done(tree)), both)

    def test_one_that_does_not_fit_does_not_fit_behind_the_other_either(self):
        tree = ("", ("a",), (("1", ("b", "b"), ()), ("2", (), ())))
        unfit = [
            ("twice", Swap(("1",), ("b",), ())), ("words", Swap(("1",), ("a",), ())),
            ("place", Swap(("3",), ("b",), ())), ("place", Read(("3",), ())), ("there", PutIn((), ("1", (), ()))), ("deep", PutIn(("1",), chain(8, "5"))),
            ("place", LeaveOut(("1", "1"))), ("place", Anew(("3",))),
        ]
        for other in [Swap((), ("a",), ("b",)), Read(("2",), ("b",)), PutIn((), ("7", (), ())), LeaveOut(("2",)),
                      Anew(("2",))]:
            for why, change in unfit:
                with self.subTest(why=why, change=vars(change), other=vars(other)):
                    self.assertIs(are_apart(change, other), True)
                    self.assertEqual(change.reason(tree), why)
                    self.assertEqual(change.reason(other.done(tree)), why)


if __name__ == "__main__":
    unittest.main()
