"""Trees: what is one, how deep a node is, its places, and the trees that come of another one."""

import unittest

from codemend.errors import MendError, NoPlace
from codemend.trees import deep, is_tree, kid_labels, node_at, places, with_kid, with_words, without
from samples import (
    ALONE, MISSING_PLACES, OTHER_KINDS, SAMPLE_PLACES, bushy_chain, bushy_tree, chain, chain_tree, rebuilt, sample,
)


class IsTree(unittest.TestCase):
    def assert_tree(self, thing, said=""):
        with self.subTest(said=said):
            self.assertIs(is_tree(thing), True)

    def assert_no_tree(self, thing, said=""):
        with self.subTest(said=said):
            self.assertIs(is_tree(thing), False)

    def assert_no_tree_anywhere(self, make, said=""):
        for place in SAMPLE_PLACES:
            self.assert_no_tree(rebuilt(sample(), place, make), (said, place))

    def test_ordinary_trees(self):
        self.assert_tree(sample())
        self.assert_tree(("", ("all",), (("1", ("one", "two"), (("1a", ("three",), ()),)), ("2", (), ()))))
        self.assert_tree(("", ("a", "a", "a"), (("7", (), ()),)))
        self.assert_tree(("", (), (("999999999zzz", ("abcdefghijkl",), ()),)))

    def test_the_tree_alone(self):
        self.assert_tree(ALONE)
        self.assert_tree(("", ("word",), ()))

    def test_every_node_of_a_tree_is_one_with_the_label_taken_off(self):
        for place in SAMPLE_PLACES:
            self.assert_tree(("",) + node_at(sample(), place)[1:], place)

    def test_kids_that_rise_by_number_then_letters(self):
        labels = ["1", "1a", "1aa", "1b", "2", "2a", "9", "10", "10a", "11", "100"]
        self.assert_tree(("", (), tuple((label, (), ()) for label in labels)))

    def test_many_kids_and_many_words(self):
        self.assert_tree(("", ("w",) * 400, tuple((str(number), (), ()) for number in range(1, 400))))

    def test_up_to_nine_deep(self):
        for levels in range(1, 10):
            self.assert_tree(chain_tree(levels), levels)
            for spot in (1, 2, 3):
                self.assert_tree(bushy_tree(levels, spot), (levels, spot))

    def test_ten_deep_and_more(self):
        for levels in (10, 11, 12, 20, 100):
            self.assert_no_tree(chain_tree(levels), levels)
            for spot in (1, 2, 3):
                self.assert_no_tree(bushy_tree(levels, spot), (levels, spot))

    def test_far_deeper_things(self):
        self.assert_no_tree(chain_tree(50000), "nodes")
        nested = ()
        listed = []
        for _ in range(50000):
            nested = (nested,)
            listed = [listed]
        for thing in (nested, listed):
            self.assert_no_tree(thing, "itself")
            self.assert_no_tree((thing, (), ()), "as label")
            self.assert_no_tree(("", thing, ()), "as words")
            self.assert_no_tree(("", (thing,), ()), "as word")
            self.assert_no_tree(("", (), thing), "as kids")
            self.assert_no_tree(("", (), (thing,)), "as kid")

    def test_a_list_that_holds_itself(self):
        ring = []
        ring.append(ring)
        self.assert_no_tree(ring)
        self.assert_no_tree(("", (), ring))
        self.assert_no_tree(("", (), (ring,)))

    def test_a_label_where_a_tree_is_asked(self):
        self.assert_no_tree(("1", (), ()))
        self.assert_no_tree(("3a", ("word",), (("1", (), ()),)))
        for place in SAMPLE_PLACES[1:]:
            self.assert_no_tree(node_at(sample(), place), place)

    def test_other_things_in_the_place_of_the_trees_label(self):
        for label in [" ", "0", "a", ".", "\n", None, False, 0, (), [], {}]:
            self.assert_no_tree((label, (), ()), label)

    def test_a_tree_in_the_place_of_a_kid(self):
        self.assert_no_tree(("", (), (ALONE,)))
        self.assert_no_tree(("", (), (("1", (), (ALONE,)),)))

    def test_a_list_in_the_place_of_the_node(self):
        self.assert_no_tree_anywhere(list)

    def test_a_list_in_the_place_of_words(self):
        self.assert_no_tree_anywhere(lambda node: (node[0], list(node[1]), node[2]))

    def test_a_list_in_the_place_of_kids(self):
        self.assert_no_tree_anywhere(lambda node: (node[0], node[1], list(node[2])))

    def test_other_kinds_in_the_place_of_words_or_kids(self):
        for thing in [None, True, False, 0, 1, "", "a", "one", [], ["a"], {}, {"a": 1}, {"a"}, 1.5]:
            self.assert_no_tree_anywhere(lambda node: (node[0], thing, node[2]), ("words", thing))
            self.assert_no_tree_anywhere(lambda node: (node[0], node[1], thing), ("kids", thing))

    def test_too_few_parts_and_too_many(self):
        self.assert_no_tree_anywhere(lambda node: ())
        self.assert_no_tree_anywhere(lambda node: node[:1])
        self.assert_no_tree_anywhere(lambda node: node[:2])
        self.assert_no_tree_anywhere(lambda node: (node[0], node[2]))
        self.assert_no_tree_anywhere(lambda node: node + ((),))
        self.assert_no_tree_anywhere(lambda node: node + node)
        self.assert_no_tree_anywhere(lambda node: node + (None,))

    def test_a_wrong_word_anywhere(self):
        for word in ["", "a" * 13, "Word", "a b", "a\n", "a_b", "\u00e9", None, True, 1, ("a",), ["a"], {}]:
            self.assert_no_tree_anywhere(lambda node: (node[0], (word,) + node[1], node[2]), ("first", word))
            self.assert_no_tree_anywhere(lambda node: (node[0], node[1] + (word,), node[2]), ("last", word))
            self.assert_no_tree_anywhere(lambda node: (node[0], ("a", word, "b"), node[2]), ("middle", word))

    def test_a_wrong_label_anywhere(self):
        for label in ["", "0", "01", "a", "1A", "1abcd", "1000000000", "1 ", "1\n", "a1", "1a1", None, True, 1, ("1",)]:
            for place in SAMPLE_PLACES[1:]:
                thing = rebuilt(sample(), place, lambda node: (label,) + node[1:])
                self.assert_no_tree(thing, (label, place))
            self.assert_no_tree_anywhere(lambda node: (node[0], node[1], ((label, (), ()),)), ("only kid", label))

    def test_kids_that_do_not_rise_anywhere(self):
        rows = [["2", "1"], ["10", "2"], ["1a", "1"], ["1b", "1aa"], ["1", "3", "2"], ["2", "1", "3"], ["3", "2", "1"],
                ["1", "2", "3", "4", "10", "9"], ["1", "10", "2"], ["2a", "2", "3"], ["1", "1aa", "1a"]]
        for row in rows:
            kids = tuple((label, (), ()) for label in row)
            self.assert_no_tree_anywhere(lambda node: (node[0], node[1], kids), row)

    def test_two_kids_of_one_label_anywhere(self):
        rows = [["1", "1"], ["3a", "3a"], ["1", "2", "2"], ["1", "1", "2"], ["1", "2", "2", "3"], ["1", "2", "1"]]
        for row in rows:
            kids = tuple((label, (), ()) for label in row)
            self.assert_no_tree_anywhere(lambda node: (node[0], node[1], kids), row)
            unlike = tuple((label, (str(spot),), ()) for spot, label in enumerate(row))
            self.assert_no_tree_anywhere(lambda node: (node[0], node[1], unlike), row)

    def test_other_kinds_in_the_place_of_a_kid(self):
        for thing in OTHER_KINDS:
            self.assert_no_tree(("", (), (thing,)), thing)
            self.assert_no_tree(("", (), (("1", (), ()), thing)), thing)
            self.assert_no_tree(("", (), (("1", (), (thing,)),)), thing)

    def test_other_kinds(self):
        for thing in OTHER_KINDS:
            self.assert_no_tree(thing, thing)
        self.assert_no_tree([ALONE])
        self.assert_no_tree((ALONE,))
        self.assert_no_tree({0: "", 1: (), 2: ()})
        self.assert_no_tree("   ")
        self.assert_no_tree(("", "", ""))

    def test_what_is_asked_about_is_not_changed(self):
        thing = ["", ["b", "a"], [["2", [], []], ["1", [], []]]]
        is_tree(thing)
        self.assertEqual(thing, ["", ["b", "a"], [["2", [], []], ["1", [], []]]])


class Deep(unittest.TestCase):
    def check(self, expected, node):
        told = deep(node)
        self.assertIs(type(told), int)
        self.assertEqual(told, expected)

    def test_one_without_kids(self):
        self.check(1, ALONE)
        self.check(1, ("", ("some", "words"), ()))
        self.check(1, ("12bc", ("word",), ()))

    def test_by_only_kids(self):
        for levels in range(1, 13):
            self.check(levels, chain(levels))
            self.check(levels, chain_tree(levels))

    def test_by_the_deepest_kid_wherever_it_stands(self):
        for levels in range(1, 13):
            for spot in (1, 2, 3):
                self.check(levels, bushy_chain(levels, spot))

    def test_kids_that_are_deep_unlike(self):
        self.check(4, ("", (), (chain(1, "1"), chain(3, "2"), chain(2, "3"))))
        self.check(6, ("5", (), (chain(5, "1"), chain(4, "2"), chain(1, "3"))))
        self.check(6, ("5", (), (chain(1, "1"), chain(4, "2"), chain(5, "3"))))

    def test_many_kids_are_not_deeper_than_one(self):
        self.check(2, ("", (), tuple((str(number), (), ()) for number in range(1, 20))))

    def test_of_the_sample(self):
        self.check(4, sample())
        self.check(3, node_at(sample(), ("1",)))
        self.check(2, node_at(sample(), ("1", "1a")))
        self.check(1, node_at(sample(), ("2a",)))


class NodeAt(unittest.TestCase):
    def test_the_tree_itself(self):
        for tree in [sample(), ALONE, ("", ("w",), ())]:
            self.assertEqual(node_at(tree, ()), tree)

    def test_nodes_of_the_sample(self):
        self.assertEqual(node_at(sample(), ("1", "1")), ("1", ("inner", "one"), ()))
        self.assertEqual(node_at(sample(), ("1", "1a")), ("1a", (), (("2", ("deepest",), ()),)))
        self.assertEqual(node_at(sample(), ("1", "1a", "2")), ("2", ("deepest",), ()))
        self.assertEqual(node_at(sample(), ("2a",)), ("2a", ("two", "a"), ()))
        self.assertEqual(node_at(sample(), ("10",)), ("10", ("ten", "ten"), (("2", (), ()),)))
        self.assertEqual(node_at(sample(), ("10", "2")), ("2", (), ()))

    def test_each_kid_is_at_the_place_of_its_label(self):
        for place in SAMPLE_PLACES:
            for kid in node_at(sample(), place)[2]:
                with self.subTest(place=place, label=kid[0]):
                    self.assertEqual(node_at(sample(), place + (kid[0],)), kid)

    def test_places_of_eight_labels(self):
        tree = ("", (), (chain(8),))
        self.assertEqual(node_at(tree, ("1",) * 8), ("1", ("end",), ()))
        self.assertIsNone(node_at(tree, ("1",) * 7 + ("2",)))
        self.assertIsNone(node_at(tree, ("1",) * 9))

    def test_places_that_are_not_there(self):
        for place in MISSING_PLACES:
            with self.subTest(place=place):
                self.assertIsNone(node_at(sample(), place))
        self.assertIsNone(node_at(ALONE, ("1",)))

    def test_another_last_label_and_one_label_more(self):
        for place in SAMPLE_PLACES:
            with self.subTest(place=place):
                self.assertIsNone(node_at(sample(), place + ("77",)))
                if place != ():
                    self.assertIsNone(node_at(sample(), place[:-1] + ("77",)))

    def test_the_tree_is_not_changed(self):
        tree = sample()
        node_at(tree, ("1", "1a"))
        node_at(tree, ("3",))
        self.assertEqual(tree, sample())


class Places(unittest.TestCase):
    def test_the_tree_alone(self):
        self.assertEqual(places(ALONE), [()])
        self.assertEqual(places(("", ("some", "words"), ())), [()])

    def test_of_the_sample_in_their_order(self):
        self.assertEqual(places(sample()), SAMPLE_PLACES)

    def test_as_a_list_of_tuples(self):
        told = places(sample())
        self.assertIs(type(told), list)
        for place in told:
            self.assertIs(type(place), tuple)

    def test_each_one_ahead_of_those_beneath_it(self):
        tree = ("", (), (("1", (), (("5", (), (("7", (), ()),)),)), ("2", (), (("1", (), ()), ("1a", (), ())))))
        self.assertEqual(
            places(tree),
            [(), ("1",), ("1", "5"), ("1", "5", "7"), ("2",), ("2", "1"), ("2", "1a")],
        )

    def test_kids_in_their_order(self):
        labels = ["1", "2", "2a", "2aa", "2b", "3", "10", "20", "100"]
        tree = ("", (), tuple((label, (), ()) for label in labels))
        self.assertEqual(places(tree), [()] + [(label,) for label in labels])

    def test_nine_deep(self):
        self.assertEqual(places(chain_tree(9)), [("1",) * length for length in range(9)])

    def test_what_is_told_is_the_askers_own(self):
        tree = sample()
        told = places(tree)
        told.append(("77",))
        told[0] = None
        told.reverse()
        self.assertEqual(places(tree), SAMPLE_PLACES)
        places(tree).clear()
        self.assertEqual(places(tree), SAMPLE_PLACES)
        self.assertEqual(places(ALONE), [()])

    def test_a_list_that_was_told_stays_as_it_was(self):
        tree = sample()
        told = places(tree)
        places(tree)
        places(without(tree, ("1",)))
        self.assertEqual(told, SAMPLE_PLACES)

    def test_the_tree_is_not_changed(self):
        tree = sample()
        places(tree)
        self.assertEqual(tree, sample())


class KidLabels(unittest.TestCase):
    def test_of_one_node_and_of_several(self):
        self.assertEqual(kid_labels(()), [])
        self.assertEqual(kid_labels((ALONE, ALONE)), [])
        self.assertEqual(kid_labels((sample(),)), ["1", "2", "2a", "10"])
        other = ("", (), (("1a", (), (("7", (), ()),)), ("2", ("w",), ()), ("2aa", (), ()), ("9", (), ())))
        for nodes in [(sample(), other), (other, sample()), (other, ALONE, sample(), other)]:
            self.assertEqual(kid_labels(nodes), ["1", "1a", "2", "2a", "2aa", "9", "10"])


class Refusals(unittest.TestCase):
    """What the three makers of trees have in common."""

    def assert_refused(self, place, call):
        with self.subTest(place=place):
            with self.assertRaises(NoPlace) as caught:
                call()
            self.assertEqual(caught.exception.place, place)
            self.assertIsInstance(caught.exception, MendError)


class WithWords(Refusals):
    def test_at_each_place_all_else_stays(self):
        for place in SAMPLE_PLACES:
            for words in [("other", "words"), (), ("x",), ("inner", "one")]:
                with self.subTest(place=place, words=words):
                    tree = sample()
                    expected = rebuilt(sample(), place, lambda node: (node[0], words, node[2]))
                    self.assertEqual(with_words(tree, place, words), expected)
                    self.assertEqual(tree, sample())

    def test_written_out(self):
        tree = ("", ("all",), (("1", ("one",), (("1", ("in",), ()),)), ("2", (), ())))
        self.assertEqual(
            with_words(tree, (), ("new", "all")),
            ("", ("new", "all"), (("1", ("one",), (("1", ("in",), ()),)), ("2", (), ()))),
        )
        self.assertEqual(
            with_words(tree, ("1",), ()),
            ("", ("all",), (("1", (), (("1", ("in",), ()),)), ("2", (), ()))),
        )
        self.assertEqual(
            with_words(tree, ("1", "1"), ("a", "b")),
            ("", ("all",), (("1", ("one",), (("1", ("a", "b"), ()),)), ("2", (), ()))),
        )
        self.assertEqual(
            with_words(tree, ("2",), ("two",)),
            ("", ("all",), (("1", ("one",), (("1", ("in",), ()),)), ("2", ("two",), ()))),
        )

    def test_the_same_words(self):
        self.assertEqual(with_words(sample(), ("1",), ("one",)), sample())

    def test_what_comes_of_it_is_a_tree(self):
        for place in SAMPLE_PLACES:
            self.assertIs(is_tree(with_words(sample(), place, ("w",))), True)

    def test_at_the_deepest_place(self):
        told = with_words(chain_tree(9), ("1",) * 8, ("w",))
        self.assertEqual(node_at(told, ("1",) * 8), ("1", ("w",), ()))
        self.assertEqual(deep(told), 9)

    def test_refused_where_there_is_no_such_place(self):
        for place in MISSING_PLACES:
            tree = sample()
            self.assert_refused(place, lambda: with_words(tree, place, ("w",)))
            self.assertEqual(tree, sample())
        self.assert_refused(("1",), lambda: with_words(ALONE, ("1",), ()))


class WithKid(Refusals):
    def labels_with(self, labels, new):
        tree = ("", (), tuple((label, (), ()) for label in labels))
        told = with_kid(tree, (), (new, ("new",), ()))
        self.assertEqual(node_at(told, (new,)), (new, ("new",), ()))
        self.assertEqual(tree, ("", (), tuple((label, (), ()) for label in labels)))
        self.assertIs(is_tree(told), True)
        return [kid[0] for kid in told[2]]

    def test_first_between_and_last_by_the_labels_order(self):
        row = ["2", "2a", "10"]
        for new in row:
            with self.subTest(new=new):
                self.assertEqual(self.labels_with([label for label in row if label != new], new), row)

    def test_at_every_spot_of_a_longer_row(self):
        row = ["1", "1a", "1aa", "1b", "2", "2zzz", "3", "9", "10", "10a", "11", "100", "999999999"]
        for new in row:
            with self.subTest(new=new):
                self.assertEqual(self.labels_with([label for label in row if label != new], new), row)

    def test_where_there_are_no_kids(self):
        self.assertEqual(self.labels_with([], "7"), ["7"])

    def test_at_each_place_all_else_stays(self):
        for place in SAMPLE_PLACES:
            for label in ["3", "1aa", "77"]:
                with self.subTest(place=place, label=label):
                    tree = sample()
                    node = (label, ("new",), (("1", ("beneath",), ()),))
                    told = with_kid(tree, place, node)
                    self.assertEqual(node_at(told, place + (label,)), node)
                    self.assertEqual(node_at(told, place)[1], node_at(sample(), place)[1])
                    self.assertEqual(without(told, place + (label,)), sample())
                    self.assertIs(is_tree(told), True)
                    self.assertEqual(tree, sample())

    def test_written_out(self):
        tree = ("", ("all",), (("1", ("one",), (("2", ("in",), ()),)), ("10", (), ())))
        node = ("2", ("n",), (("5", ("m",), ()),))
        self.assertEqual(
            with_kid(tree, (), node),
            ("", ("all",), (("1", ("one",), (("2", ("in",), ()),)), node, ("10", (), ()))),
        )
        self.assertEqual(
            with_kid(tree, ("10",), node),
            ("", ("all",), (("1", ("one",), (("2", ("in",), ()),)), ("10", (), (node,)))),
        )
        self.assertEqual(
            with_kid(tree, ("1", "2"), node),
            ("", ("all",), (("1", ("one",), (("2", ("in",), (node,)),)), ("10", (), ()))),
        )
        self.assertEqual(
            with_kid(tree, ("1",), ("1", (), ())),
            ("", ("all",), (("1", ("one",), (("1", (), ()), ("2", ("in",), ()))), ("10", (), ()))),
        )

    def test_a_label_that_stands_elsewhere_is_no_hindrance(self):
        told = with_kid(sample(), ("2a",), ("2a", (), ()))
        self.assertEqual(node_at(told, ("2a", "2a")), ("2a", (), ()))
        told = with_kid(sample(), ("2",), ("2", (), ()))
        self.assertEqual([kid[0] for kid in node_at(told, ("2",))[2]], ["1", "2", "10"])

    def test_the_same_number_with_other_letters_is_no_hindrance(self):
        told = with_kid(sample(), (), ("2aa", (), ()))
        self.assertEqual([kid[0] for kid in told[2]], ["1", "2", "2a", "2aa", "10"])

    def test_how_deep_the_tree_comes_to_be_is_not_looked_at(self):
        told = with_kid(chain_tree(9), ("1",) * 8, ("4", ("w",), ()))
        self.assertEqual(deep(told), 10)
        self.assertEqual(places(told)[-1], ("1",) * 8 + ("4",))
        told = with_kid(sample(), ("1", "1a", "2"), chain(8))
        self.assertEqual(deep(told), 12)

    def test_refused_where_there_is_no_such_place(self):
        for place in MISSING_PLACES:
            tree = sample()
            self.assert_refused(place, lambda: with_kid(tree, place, ("77", (), ())))
            self.assertEqual(tree, sample())
        self.assert_refused(("1",), lambda: with_kid(ALONE, ("1",), ("1", (), ())))

    def test_refused_where_a_kid_has_the_label(self):
        for place in SAMPLE_PLACES:
            tree = sample()
            for kid in node_at(tree, place)[2]:
                self.assert_refused(place, lambda: with_kid(tree, place, (kid[0], ("new",), ())))
                self.assert_refused(place, lambda: with_kid(tree, place, kid))
            self.assertEqual(tree, sample())


class Without(Refusals):
    def test_at_each_place_it_and_all_beneath_goes(self):
        for place in SAMPLE_PLACES[1:]:
            with self.subTest(place=place):
                tree = sample()
                told = without(tree, place)
                left = [other for other in SAMPLE_PLACES if other[:len(place)] != place]
                self.assertEqual(places(told), left)
                for other in left:
                    self.assertEqual(node_at(told, other)[1], node_at(sample(), other)[1])
                self.assertIs(is_tree(told), True)
                self.assertEqual(tree, sample())

    def test_written_out(self):
        tree = ("", ("all",), (("1", ("one",), (("1", ("in",), ()), ("2", (), ()))), ("2", ("two",), ())))
        self.assertEqual(without(tree, ("1",)), ("", ("all",), (("2", ("two",), ()),)))
        self.assertEqual(
            without(tree, ("2",)),
            ("", ("all",), (("1", ("one",), (("1", ("in",), ()), ("2", (), ()))),)),
        )
        self.assertEqual(
            without(tree, ("1", "1")),
            ("", ("all",), (("1", ("one",), (("2", (), ()),)), ("2", ("two",), ()))),
        )
        self.assertEqual(
            without(tree, ("1", "2")),
            ("", ("all",), (("1", ("one",), (("1", ("in",), ()),)), ("2", ("two",), ()))),
        )

    def test_the_last_kid_left(self):
        self.assertEqual(without(("", ("w",), (("3", (), ()),)), ("3",)), ("", ("w",), ()))

    def test_the_deepest_place(self):
        told = without(chain_tree(9), ("1",) * 8)
        self.assertEqual(places(told), [("1",) * length for length in range(8)])

    def test_refused_for_the_tree_itself(self):
        for tree in [sample(), ALONE]:
            self.assert_refused((), lambda: without(tree, ()))

    def test_refused_where_there_is_no_such_place(self):
        for place in MISSING_PLACES:
            tree = sample()
            self.assert_refused(place, lambda: without(tree, place))
            self.assertEqual(tree, sample())
        self.assert_refused(("1",), lambda: without(ALONE, ("1",)))


if __name__ == "__main__":
    unittest.main()
