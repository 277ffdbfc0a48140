"""The five changes of a tree: their fields, each reason and the order of reasons, and the tree that comes of them."""

import unittest

from codemend.changes import Anew, Change, LeaveOut, PutIn, Read, Swap
from codemend.errors import MendError, NoFit
from codemend.trees import deep, is_tree, node_at, places, without
from samples import ALONE, MISSING_PLACES, SAMPLE_PLACES, bushy_chain, chain, chain_tree, rebuilt, sample


def leaves(labels):
    """A tree with kids of these labels, each with its label as its word."""
    return ("", (), tuple((label, (label,), ()) for label in labels))


class Checked(unittest.TestCase):
    """A change is asked and done twice, and the tree looked at behind each: nothing may be kept between them."""

    def assert_leads(self, change, tree, expected):
        with self.subTest(change=vars(change), tree=tree):
            before = repr(tree)
            fields = repr(vars(change))
            for _ in range(2):
                self.assertIsNone(change.reason(tree))
                told = change.done(tree)
                self.assertEqual(told, expected)
                self.assertIs(is_tree(told), True)
                self.assertEqual(repr(tree), before)
                self.assertEqual(repr(vars(change)), fields)

    def assert_unfit(self, why, change, tree):
        with self.subTest(why=why, change=vars(change), tree=tree):
            before = repr(tree)
            fields = repr(vars(change))
            for _ in range(2):
                self.assertEqual(change.reason(tree), why)
                with self.assertRaises(NoFit) as caught:
                    change.done(tree)
                self.assertEqual(caught.exception.why, why)
                self.assertIsInstance(caught.exception, MendError)
                self.assertEqual(repr(tree), before)
                self.assertEqual(repr(vars(change)), fields)


class Kinds(unittest.TestCase):
    def made(self):
        return [
            Swap(("1",), ("a",), ("b",)), Read(("1",), ("a",)), PutIn(("1",), ("2", (), ())), LeaveOut(("1",)),
            Anew(("1",)),
        ]

    def test_each_is_a_change(self):
        for change in self.made():
            self.assertIsInstance(change, Change)

    def test_each_is_of_its_own_class_alone(self):
        for change in self.made():
            kinds = [kind for kind in (Swap, Read, PutIn, LeaveOut, Anew) if isinstance(change, kind)]
            self.assertEqual(kinds, [type(change)])

    def test_fields_as_handed_in(self):
        swap = Swap(("1", "2a"), ("a", "b"), ())
        self.assertEqual((swap.place, swap.old, swap.new), (("1", "2a"), ("a", "b"), ()))
        read = Read((), ("a", "b"))
        self.assertEqual((read.place, read.words), ((), ("a", "b")))
        node = ("7", ("w",), (("1", (), ()),))
        put_in = PutIn(("3",), node)
        self.assertEqual((put_in.place, put_in.node), (("3",), node))
        self.assertEqual(LeaveOut(("4", "5")).place, ("4", "5"))
        self.assertEqual(Anew(("6",)).place, ("6",))

    def test_each_object_has_its_own_fields(self):
        one = Swap(("1",), ("a",), ("b",))
        Swap(("2",), ("c",), ("d",))
        self.assertEqual((one.place, one.old, one.new), (("1",), ("a",), ("b",)))


class SwapWords(Checked):
    def swapped(self, words, old, new, expected):
        for place in [(), ("1",), ("2", "1a")]:
            tree = ("", ("x",), (("1", ("x",), ()), ("2", ("y", "y"), (("1a", ("x",), (("1", ("y",), ()),)),))))
            with_old = rebuilt(tree, place, lambda node: (node[0], words, node[2]))
            with_new = rebuilt(tree, place, lambda node: (node[0], expected, node[2]))
            self.assert_leads(Swap(place, old, new), with_old, with_new)

    def test_at_the_begin_amid_at_the_end(self):
        words = ("a", "b", "c", "d")
        self.swapped(words, ("a",), ("n",), ("n", "b", "c", "d"))
        self.swapped(words, ("b",), ("n",), ("a", "n", "c", "d"))
        self.swapped(words, ("d",), ("n",), ("a", "b", "c", "n"))
        self.swapped(words, ("a", "b"), ("n",), ("n", "c", "d"))
        self.swapped(words, ("b", "c"), ("n",), ("a", "n", "d"))
        self.swapped(words, ("c", "d"), ("n",), ("a", "b", "n"))

    def test_all_of_the_words(self):
        self.swapped(("a", "b", "c"), ("a", "b", "c"), ("n", "m"), ("n", "m"))
        self.swapped(("a",), ("a",), ("n",), ("n",))

    def test_new_without_words(self):
        self.swapped(("a", "b", "c"), ("a",), (), ("b", "c"))
        self.swapped(("a", "b", "c"), ("b",), (), ("a", "c"))
        self.swapped(("a", "b", "c"), ("b", "c"), (), ("a",))
        self.swapped(("a", "b", "c"), ("a", "b", "c"), (), ())

    def test_new_longer_than_old(self):
        self.swapped(("a", "b", "c"), ("b",), ("n", "m", "o", "p"), ("a", "n", "m", "o", "p", "c"))
        self.swapped(("a", "b", "c"), ("a",), ("n", "m"), ("n", "m", "b", "c"))
        self.swapped(("a", "b", "c"), ("b", "c"), ("n", "m", "o"), ("a", "n", "m", "o"))

    def test_new_that_is_old_or_has_it(self):
        self.swapped(("a", "b"), ("b",), ("b",), ("a", "b"))
        self.swapped(("a", "b"), ("b",), ("b", "b"), ("a", "b", "b"))
        self.swapped(("a", "b"), ("b",), ("a",), ("a", "a"))

    def test_a_part_of_old_elsewhere_is_no_hindrance(self):
        self.swapped(("a", "a", "b"), ("a", "b"), ("n",), ("a", "n"))
        self.swapped(("a", "b", "a", "c", "b"), ("a", "c"), ("n",), ("a", "b", "n", "b"))

    def test_old_at_another_place_is_no_hindrance(self):
        tree = ("", ("a",), (("1", ("a",), (("1", ("a",), ()),)),))
        self.assert_leads(Swap(("1",), ("a",), ("n",)), tree, ("", ("a",), (("1", ("n",), (("1", ("a",), ()),)),)))

    def test_long_words(self):
        words = tuple(f"w{number}" for number in range(400))
        self.swapped(words, words[150:350], ("n",), words[:150] + ("n",) + words[350:])

    def test_no_such_place(self):
        for place in MISSING_PLACES:
            self.assert_unfit("place", Swap(place, ("one",), ("n",)), sample())
        self.assert_unfit("place", Swap(("1",), ("a",), ()), ALONE)

    def test_old_not_in_the_words(self):
        tree = ("", ("a", "b", "c", "ab"), (("1", ("d",), ()), ("2", (), ())))
        for old in [("d",), ("b", "a"), ("a", "c"), ("a", "b", "d"), ("c", "a"), ("abc",), ("b", "b"), ("ab", "a"),
                    ("a", "b", "ab")]:
            self.assert_unfit("words", Swap((), old, ("n",)), tree)
        self.assert_unfit("words", Swap(("1",), ("a",), ("n",)), tree)
        self.assert_unfit("words", Swap(("2",), ("a",), ("n",)), tree)

    def test_old_longer_than_the_words(self):
        tree = ("", ("a", "b"), (("1", (), ()),))
        for old in [("a", "b", "c"), ("a", "b", "a", "b"), ("x", "a", "b"), ("a",) * 20]:
            self.assert_unfit("words", Swap((), old, ("n",)), tree)
            self.assert_unfit("words", Swap(("1",), old, ("n",)), tree)

    def test_old_at_two_spots(self):
        for words, old in [
            (("a", "a"), ("a",)),
            (("a", "b", "a"), ("a",)),
            (("a", "b", "c", "a", "b"), ("a", "b")),
            (("x", "a", "y", "a", "z", "a"), ("a",)),
        ]:
            self.assert_unfit("twice", Swap((), old, ("n",)), ("", words, ()))
            self.assert_unfit("twice", Swap(("1", "2"), old, ()), ("", (), (("1", (), (("2", words, ()),)),)))

    def test_old_at_two_spots_that_overlap(self):
        for words, old in [
            (("a", "a", "a"), ("a", "a")),
            (("a", "b", "a", "b", "a"), ("a", "b", "a")),
            (("x", "a", "a", "a", "a", "y"), ("a", "a", "a")),
        ]:
            self.assert_unfit("twice", Swap((), old, ("n",)), ("", words, ()))

    def test_on_what_came_of_it_it_may_fit_no_more(self):
        change = Swap((), ("a",), ("b",))
        self.assert_unfit("words", change, change.done(("", ("a",), ())))
        change = Swap((), ("a",), ("a", "a"))
        self.assert_unfit("twice", change, change.done(("", ("a",), ())))


class ReadAnew(Checked):
    def test_at_each_place_all_else_stays(self):
        for place in SAMPLE_PLACES:
            for words in [("other", "words"), (), ("one",), ("inner", "one")]:
                expected = rebuilt(sample(), place, lambda node: (node[0], words, node[2]))
                self.assert_leads(Read(place, words), sample(), expected)

    def test_no_such_place(self):
        for place in MISSING_PLACES:
            self.assert_unfit("place", Read(place, ("w",)), sample())
            self.assert_unfit("place", Read(place, ()), sample())

    def test_twice_is_as_once(self):
        change = Read(("1",), ("w",))
        self.assert_leads(change, change.done(sample()), change.done(sample()))


class PuttingIn(Checked):
    def test_first_between_and_last(self):
        row = ["1", "2", "2a", "2aa", "2b", "9", "10", "10a", "100"]
        for new in row:
            node = (new, (new,), ())
            self.assert_leads(PutIn((), node), leaves([label for label in row if label != new]), leaves(row))

    def test_where_there_are_no_kids(self):
        self.assert_leads(PutIn((), ("5", (), ())), ALONE, ("", (), (("5", (), ()),)))

    def test_at_each_place_all_else_stays(self):
        for place in SAMPLE_PLACES:
            node = ("77", ("new",), (("1", ("in",), ()), ("1a", (), ())))
            expected = rebuilt(sample(), place, lambda above: (above[0], above[1], above[2] + (node,)))
            self.assert_leads(PutIn(place, node), sample(), expected)

    def test_no_such_place(self):
        for place in MISSING_PLACES:
            self.assert_unfit("place", PutIn(place, ("77", (), ())), sample())
            # Too deep besides: that there is no such place comes first.
            self.assert_unfit("place", PutIn(place, chain(20)), sample())

    def test_a_kid_with_the_label_is_there(self):
        for place in SAMPLE_PLACES:
            for kid in node_at(sample(), place)[2]:
                self.assert_unfit("there", PutIn(place, kid), sample())
                self.assert_unfit("there", PutIn(place, (kid[0], ("w",), ())), sample())

    def test_there_and_too_deep(self):
        for length in range(8):
            self.assert_unfit("there", PutIn(("1",) * length, chain(20)), chain_tree(9))
        self.assert_unfit("there", PutIn((), chain(9, "10")), sample())

    def test_the_label_elsewhere_is_no_hindrance(self):
        tree = leaves(["1", "2"])
        expected = ("", (), (("1", ("1",), (("1", (), ()),)), ("2", ("2",), ())))
        self.assert_leads(PutIn(("1",), ("1", (), ())), tree, expected)
        self.assert_leads(PutIn((), ("2a", ("2a",), ())), tree, leaves(["1", "2", "2a"]))

    def test_just_nine_deep_and_ten(self):
        for length in range(8):
            place = ("1",) * length
            tree = chain_tree(length + 1)
            for levels in range(1, 12):
                for node in [chain(levels), bushy_chain(levels, 1), bushy_chain(levels, 2), bushy_chain(levels, 3)]:
                    change = PutIn(place, node)
                    if length + 1 + levels <= 9:
                        expected = rebuilt(tree, place, lambda above: (above[0], above[1], (node,)))
                        self.assertEqual(deep(expected), length + 1 + levels)
                        self.assert_leads(change, tree, expected)
                    else:
                        self.assert_unfit("deep", change, tree)

    def test_beneath_the_deepest_place(self):
        for node in [("4", (), ()), chain(2, "4")]:
            self.assert_unfit("deep", PutIn(("1",) * 8, node), chain_tree(9))

    def test_elsewhere_in_a_tree_that_is_nine_deep(self):
        told = PutIn((), ("2", ("w",), ())).done(chain_tree(9))
        self.assertEqual(deep(told), 9)
        self.assertEqual(without(told, ("2",)), chain_tree(9))
        self.assert_leads(PutIn((), chain(8, "2")), chain_tree(9), ("", (), (chain(8), chain(8, "2"))))
        self.assert_unfit("deep", PutIn((), chain(9, "2")), chain_tree(9))
        self.assert_leads(PutIn(("1",) * 7, ("2", (), ())), chain_tree(9), rebuilt(
            chain_tree(9), ("1",) * 7, lambda above: (above[0], above[1], above[2] + (("2", (), ()),)),
        ))

    def test_a_second_time_it_is_there(self):
        change = PutIn(("2a",), ("5", (), ()))
        self.assert_unfit("there", change, change.done(sample()))


class LeavingOut(Checked):
    def test_at_each_place_it_and_all_beneath_goes(self):
        for place in SAMPLE_PLACES[1:]:
            expected = rebuilt(sample(), place[:-1], lambda above: (
                above[0], above[1], tuple(kid for kid in above[2] if kid[0] != place[-1]),
            ))
            self.assert_leads(LeaveOut(place), sample(), expected)

    def test_the_only_kid(self):
        self.assert_leads(LeaveOut(("3",)), leaves(["3"]), ALONE)
        self.assert_leads(LeaveOut(("1",)), chain_tree(9), ALONE)

    def test_the_tree_itself(self):
        for tree in [sample(), ALONE, chain_tree(9)]:
            self.assert_unfit("whole", LeaveOut(()), tree)

    def test_no_such_place(self):
        for place in MISSING_PLACES:
            self.assert_unfit("place", LeaveOut(place), sample())
        self.assert_unfit("place", LeaveOut(("1",)), ALONE)

    def test_a_second_time_it_is_gone(self):
        change = LeaveOut(("1",))
        self.assert_unfit("place", change, change.done(sample()))

    def test_what_was_put_in_goes_again(self):
        for place in SAMPLE_PLACES:
            put_in = PutIn(place, ("77", ("w",), ()))
            self.assert_leads(LeaveOut(place + ("77",)), put_in.done(sample()), sample())


class NumberingAnew(Checked):
    def test_labels_with_letters_and_gaps(self):
        tree = leaves(["2", "2a", "2aa", "7", "10", "10b", "999999999zzz"])
        kids = zip(range(1, 8), tree[2])
        self.assert_leads(Anew(()), tree, ("", (), tuple((str(number), kid[1], ()) for number, kid in kids)))

    def test_at_the_tree_itself_all_beneath_the_kids_as_it_was(self):
        one, two, two_a, ten = sample()[2]
        expected = ("", ("all", "of", "it"), (one, two, ("3", two_a[1], two_a[2]), ("4", ten[1], ten[2])))
        self.assert_leads(Anew(()), sample(), expected)

    def test_at_a_place(self):
        expected = rebuilt(sample(), ("1",), lambda node: ("1", ("one",), (
            ("1", ("inner", "one"), ()),
            ("2", (), (("2", ("deepest",), ()),)),
            ("3", ("inner", "two"), ()),
        )))
        self.assert_leads(Anew(("1",)), sample(), expected)
        self.assert_leads(Anew(("1", "1a")), sample(), rebuilt(
            sample(), ("1", "1a"), lambda node: ("1a", (), (("1", ("deepest",), ()),)),
        ))

    def test_the_kids_of_kids_keep_their_labels(self):
        tree = ("", (), (("5", ("a",), (("5", (), (("7a", ("b",), ()),)), ("8", (), ()))),))
        expected = ("", (), (("1", ("a",), (("5", (), (("7a", ("b",), ()),)), ("8", (), ()))),))
        self.assert_leads(Anew(()), tree, expected)

    def test_more_than_nine_kids(self):
        labels = [f"{number}a" for number in range(1, 26)]
        told = Anew(()).done(leaves(labels))
        self.assertEqual([kid[0] for kid in told[2]], [str(number) for number in range(1, 26)])
        self.assertEqual([kid[1] for kid in told[2]], [(label,) for label in labels])
        self.assertIs(is_tree(told), True)

    def test_no_kids(self):
        self.assert_leads(Anew(()), ALONE, ALONE)
        self.assert_leads(Anew(("2a",)), sample(), sample())

    def test_kids_that_are_numbered_so_already(self):
        self.assert_leads(Anew(()), leaves(["1", "2", "3"]), leaves(["1", "2", "3"]))

    def test_twice_is_as_once(self):
        for place in [(), ("1",), ("2",), ("1", "1a")]:
            change = Anew(place)
            self.assert_leads(change, change.done(sample()), change.done(sample()))

    def test_no_such_place(self):
        for place in MISSING_PLACES:
            self.assert_unfit("place", Anew(place), sample())


class OnOtherTrees(Checked):
    def test_the_same_object_on_one_tree_and_on_another(self):
        other = ("", (), (("1", ("one", "more"), (("4", ("w",), ()),)),))
        cases = [
            (Swap(("1",), ("one",), ("n",)), ("", (), (("1", ("n", "more"), (("4", ("w",), ()),)),))),
            (Read(("1",), ("n",)), ("", (), (("1", ("n",), (("4", ("w",), ()),)),))),
            (PutIn(("1",), ("3", (), ())), ("", (), (("1", ("one", "more"), (("3", (), ()), ("4", ("w",), ()))),))),
            (LeaveOut(("1",)), ALONE),
            (Anew(("1",)), ("", (), (("1", ("one", "more"), (("1", ("w",), ()),)),))),
        ]
        for change, expected in cases:
            on_sample = change.done(sample())
            self.assert_leads(change, other, expected)
            self.assert_unfit("place", change, ALONE)
            self.assert_leads(change, sample(), on_sample)
            self.assert_leads(change, other, expected)

    def test_what_was_told_stays_as_it_was(self):
        change = PutIn((), ("3", (), ()))
        told = change.done(sample())
        LeaveOut(("1",)).done(told)
        Anew(()).done(told)
        self.assertEqual(places(told), SAMPLE_PLACES[:10] + [("3",)] + SAMPLE_PLACES[10:])


if __name__ == "__main__":
    unittest.main()
