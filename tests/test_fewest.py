"""The distance of two trees, and the fewest changes from one to the other."""

import itertools
import random
import unittest

from books import spelled
from codemend.changes import LeaveOut, PutIn, Read, Swap
from codemend.fewest import distance, fewest
from codemend.trees import deep, node_at, places
from pairs import deep_tree, drawn_pair, drawn_tree, flat, led, node, tree_of
from samples import ALONE, SAMPLE_PLACES, chain_tree, rebuilt, sample


def beneath(kid, place):
    """A tree with the node at the end of so many only kids."""
    for label in reversed(place):
        kid = (label, (), (kid,))
    return tree_of(kid)


def reckoned(one, other):
    """The distance by a second way: over the places as such, the deepest ones first."""
    here = flat(one)
    there = flat(other)
    sums = {}
    for place in sorted(here.keys() & there.keys(), key=len, reverse=True):
        sums[place] = int(here[place] != there[place])
        for kid in here.keys() | there.keys():
            if len(kid) == len(place) + 1 and kid[:-1] == place:
                sums[place] += min(2, sums[kid]) if kid in here and kid in there else 1
    return sums[()]


class Distance(unittest.TestCase):
    def check(self, one, other, told):
        with self.subTest(one=one, other=other):
            self.assertEqual(distance(one, other), told)
            self.assertEqual(distance(other, one), told)
            self.assertIs(type(distance(one, other)), int)

    def test_of_a_tree_and_itself(self):
        for tree in [ALONE, sample(), chain_tree(9), tree_of(words=("a",))]:
            self.check(tree, tree, 0)
        self.check(sample(), sample(), 0)

    def test_words_of_the_tree(self):
        self.check(tree_of(words=("a",)), tree_of(words=("b",)), 1)
        self.check(tree_of(words=("a",)), ALONE, 1)
        self.check(tree_of(words=("a", "b")), tree_of(words=("b", "a")), 1)
        self.check(tree_of(words=("a", "a")), tree_of(words=("a",)), 1)
        self.check(tree_of(words=("a", "b", "c", "d")), tree_of(words=("e", "f")), 1)

    def test_kids_of_one_alone(self):
        self.check(tree_of(node("1")), ALONE, 1)
        self.check(tree_of(node("1"), node("2"), node("3")), ALONE, 3)
        self.check(tree_of(node("1"), node("3")), tree_of(node("2")), 3)
        self.check(tree_of(node("1"), node("2")), tree_of(node("1"), node("1a"), node("2"), node("10")), 2)
        # However much there is beneath it and at it.
        self.check(tree_of(node("1", node("1", node("2")), node("2"), words=("a", "b"))), ALONE, 1)
        self.check(tree_of(node("1", node("1")), words=("a",)), tree_of(node("2", node("1")), words=("b",)), 3)

    def test_kids_of_both_whose_words_are_unlike(self):
        self.check(tree_of(node("1", words=("a",))), tree_of(node("1")), 1)
        self.check(tree_of(node("1", words=("a",)), node("2", words=("a",))), tree_of(node("1"), node("2")), 2)
        kids = [[node(str(number), words=(word,)) for number in range(1, 8)] for word in "ab"]
        self.check(tree_of(*kids[0]), tree_of(*kids[1]), 7)

    def test_kids_of_both_whose_kids_are_unlike(self):
        self.check(tree_of(node("1", node("1"))), tree_of(node("1")), 1)
        self.check(tree_of(node("1", node("1"))), tree_of(node("1", node("2"))), 2)
        self.check(tree_of(node("1", node("1", words=("a",)))), tree_of(node("1", node("1"))), 1)

    def test_a_sum_of_one_two_and_more(self):
        grown = []
        for most in range(6):
            grown.append([node(str(number)) for number in range(1, most + 1)])
        for most, told in [(0, 0), (1, 1), (2, 2), (3, 2), (4, 2), (5, 2)]:
            self.check(tree_of(node("7", *grown[most])), tree_of(node("7")), told)
            self.check(tree_of(*grown[most]), ALONE, most)
            self.check(tree_of(node("7", *grown[most], words=("a",))), tree_of(node("7")), min(told + 1, 2))
            self.check(tree_of(*grown[most], words=("a",)), ALONE, most + 1)
        # Two and two: each kid by itself.
        self.check(tree_of(node("7", *grown[4]), node("8", *grown[3])), tree_of(node("7"), node("8")), 4)
        self.check(tree_of(node("7", *grown[4]), node("8", *grown[1])), tree_of(node("7"), node("8"), node("9")), 4)

    def test_deeper_ones(self):
        three = [node("1"), node("2"), node("3")]
        for place in [("4",), ("4", "1a"), ("4", "1a", "2"), ("1",) * 7]:
            self.check(beneath(node("5", *three), place), beneath(node("5"), place), 2)
            self.check(beneath(node("5", three[0]), place), beneath(node("5"), place), 1)
            self.check(beneath(node("5", words=("a",)), place), beneath(node("6", words=("a",)), place), 2)
            # The one above has other words too: three in all, but no more than leaving it out and putting it in.
            one = beneath(node("5", *three), place)
            other = rebuilt(beneath(node("5"), place), place, lambda kid: (kid[0], ("w",), kid[2]))
            self.check(one, other, 2)
        # Two kids of one kid, two apart each: not four.
        one = tree_of(node("1", node("1", *three), node("2", *three)))
        self.check(one, tree_of(node("1", node("1"), node("2"))), 2)
        self.check(("", (), one[2][0][2]), ("", (), (node("1"), node("2"))), 4)

    def test_one_place_of_a_tree_with_other_words(self):
        for place in SAMPLE_PLACES:
            self.check(sample(), rebuilt(sample(), place, lambda kid: (kid[0], ("other",), kid[2])), 1)

    def test_by_a_second_reckoning(self):
        met = {}
        for seed in range(400):
            one, other = drawn_pair(random.Random(seed))
            told = distance(one, other)
            self.check(one, other, reckoned(one, other))
            met[told] = True
        for told in range(8):
            self.assertIn(told, met)

    def test_no_further_by_way_of_a_third(self):
        for seed in range(150):
            chance = random.Random(seed)
            three = [drawn_tree(chance, 3) for _ in range(3)]
            for one, amid, other in itertools.permutations(three):
                self.assertLessEqual(distance(one, other), distance(one, amid) + distance(amid, other))

    def test_deeper_than_a_tree_is(self):
        self.check(chain_tree(11), chain_tree(11), 0)
        self.check(chain_tree(12), chain_tree(10), 2)
        self.check(chain_tree(11), ALONE, 1)


class Fewest(unittest.TestCase):
    def check(self, one, other):
        told = fewest(one, other)
        self.assertIs(type(told), list)
        for change in told:
            self.assertIn(type(change), (Read, PutIn, LeaveOut))
        self.assertEqual(len(told), distance(one, other))
        self.assertEqual(led(self, one, told), other)
        return spelled(told)

    def test_none_from_a_tree_to_itself(self):
        for tree in [ALONE, sample(), chain_tree(9)]:
            self.assertEqual(fewest(tree, tree), [])
        self.assertEqual(fewest(sample(), sample()), [])

    def test_one_change(self):
        one = sample()
        for other, told in [
            (rebuilt(one, (), lambda kid: (kid[0], (), kid[2])), ("Read", {"place": (), "words": ()})),
            (rebuilt(one, ("2a",), lambda kid: (kid[0], ("b", "c"), kid[2])),
             ("Read", {"place": ("2a",), "words": ("b", "c")})),
            (rebuilt(one, ("1", "1a", "2"), lambda kid: (kid[0], ("x",), kid[2])),
             ("Read", {"place": ("1", "1a", "2"), "words": ("x",)})),
            (rebuilt(one, (), lambda kid: (kid[0], kid[1], kid[2][1:])), ("LeaveOut", {"place": ("1",)})),
            (rebuilt(one, ("2",), lambda kid: (kid[0], kid[1], kid[2][:1])), ("LeaveOut", {"place": ("2", "10")})),
            (rebuilt(one, (), lambda kid: (kid[0], kid[1], kid[2] + (node("11", node("1")),))),
             ("PutIn", {"place": (), "node": node("11", node("1"))})),
            (rebuilt(one, ("10",), lambda kid: (kid[0], kid[1], (node("1", words=("x",)),) + kid[2])),
             ("PutIn", {"place": ("10",), "node": node("1", words=("x",))})),
        ]:
            self.assertEqual(self.check(one, other), [told])

    def test_two_changes_may_be_gone_into_or_not(self):
        self.check(tree_of(node("1", node("1"), words=("a",))), tree_of(node("1")))
        self.check(tree_of(node("1", node("1"), node("2"))), tree_of(node("1")))
        self.check(tree_of(node("1", node("1"))), tree_of(node("1", node("2"))))

    def test_a_kid_left_out_and_another_of_its_label_put_in(self):
        one = tree_of(node("1"), node("2", node("1"), node("2"), node("3"), words=("a",)), node("3"))
        other = tree_of(node("1"), node("2", node("5"), words=("b",)), node("3"))
        self.assertEqual(self.check(one, other), [
            ("LeaveOut", {"place": ("2",)}), ("PutIn", {"place": (), "node": other[2][1]}),
        ])
        for place in [("4",), ("4", "1a", "2")]:
            self.assertEqual(self.check(beneath(one[2][1], place), beneath(other[2][1], place)), [
                ("LeaveOut", {"place": place + ("2",)}), ("PutIn", {"place": place, "node": other[2][1]}),
            ])

    def test_the_two_trees_themselves_are_gone_into(self):
        one = tree_of(node("1"), node("2"), words=("a",))
        other = tree_of(node("3"), node("4"), words=("b",))
        self.assertEqual(len(self.check(one, other)), 5)

    def test_drawn_trees(self):
        classes = {}
        deepest = 0
        again = 0
        for seed in range(500):
            one, other = drawn_pair(random.Random(seed))
            told = self.check(one, other)
            places_left = [fields["place"] for name, fields in told if name == "LeaveOut"]
            places_come = [fields["place"] + (fields["node"][0],) for name, fields in told if name == "PutIn"]
            again += len(set(places_left) & set(places_come))
            deepest += deep(one) == 9 and deep(other) == 9 and one != other
            for name, _ in told:
                classes[name] = True
        self.assertEqual(set(classes), {"Read", "LeaveOut", "PutIn"})
        self.assertGreater(deepest, 50)
        self.assertGreater(again, 50)

    def test_nine_deep(self):
        for seed in range(60):
            chance = random.Random(seed)
            one = deep_tree(chance)
            other = deep_tree(chance)
            self.assertEqual((deep(one), deep(other)), (9, 9))
            self.check(one, other)
        self.check(chain_tree(9), ALONE)
        self.check(ALONE, chain_tree(9))
        self.check(beneath(node("1"), ("1",) * 7), beneath(node("2"), ("1",) * 7))

    def test_from_a_tree_deeper_than_a_tree_is(self):
        # What comes in ahead of the deep kid by its label fits behind it alone.
        self.check(tree_of(node("2", *chain_tree(9)[2])), tree_of(node("1")))
        self.check(tree_of(*chain_tree(11)[2]), tree_of(node("2"), node("3")))
        self.check(tree_of(node("1"), node("2", *chain_tree(10)[2])), tree_of(node("1", node("4")), node("2")))

    def test_told_anew_and_nothing_handed_in_is_changed(self):
        one = sample()
        other = rebuilt(sample(), ("1",), lambda kid: (kid[0], ("x",), kid[2][:2] + (node("7"), node("8"))))
        told = fewest(one, other)
        first = spelled(told)
        told[0].place = ("99",)
        told.clear()
        self.assertEqual(spelled(fewest(one, other)), first)
        none = fewest(one, one)
        none.append("x")
        self.assertEqual(fewest(one, one), [])
        self.assertEqual(one, sample())
        self.assertEqual(other, rebuilt(sample(), ("1",), lambda kid: (kid[0], ("x",),
                                                                      kid[2][:2] + (node("7"), node("8")))))

    def test_by_the_names_of_the_arguments(self):
        one = tree_of(node("1"))
        self.assertEqual(distance(one=one, other=ALONE), 1)
        self.assertEqual(spelled(fewest(one=one, other=ALONE)), [("LeaveOut", {"place": ("1",)})])

    def test_a_wide_tree(self):
        one = tree_of(*[node(str(number), words=("a",)) for number in range(1, 400, 2)])
        other = tree_of(*[node(str(number), words=("b",)) for number in range(1, 400, 3)])
        self.check(one, other)


def all_nodes(label, labels, rows, levels):
    """Every node of these labels and words that is at most so many levels deep."""
    choices = [[None] + all_nodes(kid, labels, rows, levels - 1) for kid in labels] if levels > 1 else []
    told = []
    for words in rows:
        for kids in itertools.product(*choices):
            told.append((label, words, tuple(kid for kid in kids if kid is not None)))
    return told


def runs(words):
    return {words[begin:end] for begin in range(len(words)) for end in range(begin + 1, len(words) + 1)}


class Search:
    """All that one change leads to, by words and labels of a small stock."""

    def __init__(self, labels, rows, levels):
        self.labels = labels
        self.rows = rows
        self.levels = levels
        self.nodes = {count: [all_nodes(label, labels, rows, count) for label in labels]
                      for count in range(1, levels)}

    def changes(self, tree):
        told = []
        for place in places(tree):
            told.append(LeaveOut(place))
            told += [Read(place, words) for words in self.rows]
            told += [Swap(place, old, new) for old in runs(node_at(tree, place)[1]) for new in self.rows]
            levels = self.levels - len(place) - 1
            if levels > 0:
                told += [PutIn(place, kid) for kids in self.nodes[levels] for kid in kids]
        return told

    def one_on(self, tree):
        return {change.done(tree) for change in self.changes(tree) if change.reason(tree) is None}


class NoFewer(unittest.TestCase):
    def check(self, search, trees, starts):
        met = {}
        for one in starts:
            near = search.one_on(one)
            further = set()
            for amid in near:
                further |= search.one_on(amid)
            for other in trees:
                told = len(fewest(one, other))
                with self.subTest(one=one, other=other):
                    self.assertEqual(told == 0, one == other)
                    if one != other:
                        self.assertEqual(told == 1, other in near)
                        self.assertEqual(told <= 2, other in near or other in further)
                met[told] = met.get(told, 0) + 1
        return met

    def test_all_trees_two_deep(self):
        rows = [(), ("a",), ("b",)]
        trees = all_nodes("", ["1", "2"], rows, 2)
        self.assertEqual(len(trees), 48)
        met = self.check(Search(["1", "2"], rows, 2), trees, trees)
        self.assertEqual(sorted(met), [0, 1, 2, 3])

    def test_trees_three_deep(self):
        rows = [(), ("a",)]
        trees = all_nodes("", ["1", "2"], rows, 3)
        self.assertEqual(len(trees), 722)
        starts = random.Random(1).sample(trees, 12) + [ALONE, trees[-1]]
        met = self.check(Search(["1", "2"], rows, 3), trees, starts)
        self.assertEqual(sorted(met), [0, 1, 2, 3, 4, 5])

    def test_trees_with_more_words(self):
        rows = [(), ("a",), ("a", "b"), ("a", "a"), ("b", "a", "b")]
        trees = all_nodes("", ["1"], rows, 3)
        self.assertEqual(len(trees), 155)
        starts = random.Random(2).sample(trees, 20)
        met = self.check(Search(["1"], rows, 3), trees, starts)
        self.assertEqual(sorted(met), [0, 1, 2, 3])


if __name__ == "__main__":
    unittest.main()
