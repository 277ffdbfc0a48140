"""The plain changes from one tree to another, and two drafts of a tree brought together."""

import random
import unittest

from books import spelled
from codemend.changes import LeaveOut, PutIn, Read
from codemend.drafts import plain_changes, together
from codemend.labels import label_before
from codemend.trees import deep, is_tree
from hand import rank
from pairs import deep_tree, drawn_drafts, drawn_pair, flat, led, led_passing, node, tree_of
from samples import ALONE, chain_tree, rebuilt, sample


def row(change):
    """A change shortly: its class, its place, and what it brings."""
    fields = vars(change)
    return (type(change).__name__,) + tuple(fields[name] for name in ("place", "words", "node") if name in fields)


def rows(changes):
    return [row(change) for change in changes]


class PlainChanges(unittest.TestCase):
    def check(self, one, other, told=None):
        changes = plain_changes(one, other)
        self.assertIs(type(changes), list)
        for change in changes:
            self.assertIn(type(change), (Read, PutIn, LeaveOut))
        if told is not None:
            self.assertEqual(rows(changes), told)
        self.assertEqual(led(self, one, changes), other)

    def test_none_from_a_tree_to_itself(self):
        for tree in [ALONE, sample(), chain_tree(9)]:
            self.check(tree, tree, [])
        self.check(sample(), sample(), [])

    def test_one_change_of_each_class(self):
        self.check(tree_of(words=("a",)), tree_of(words=("b", "c")), [("Read", (), ("b", "c"))])
        self.check(tree_of(words=("a",)), ALONE, [("Read", (), ())])
        self.check(tree_of(node("1", node("2"))), ALONE, [("LeaveOut", ("1",))])
        self.check(ALONE, tree_of(node("1")), [("PutIn", (), node("1"))])

    def test_put_in_with_a_node_with_kids(self):
        kid = node("3", node("1", words=("a",)), node("2", node("4"), words=("b",)), words=("c",))
        self.check(ALONE, tree_of(kid), [("PutIn", (), kid)])
        self.check(tree_of(kid), ALONE, [("LeaveOut", ("3",))])
        one = tree_of(node("1", node("1")))
        self.check(one, tree_of(node("1", node("1", kid))), [("PutIn", ("1", "1"), kid)])

    def test_kids_of_one_alone_by_their_labels_among_one_another(self):
        one = tree_of(node("1"), node("2"), node("3", words=("a",)), node("10"))
        other = tree_of(node("1a"), node("2b"), node("3", words=("a",)), node("9"), node("11"))
        self.check(one, other, [
            ("LeaveOut", ("1",)), ("PutIn", (), node("1a")), ("LeaveOut", ("2",)), ("PutIn", (), node("2b")),
            ("PutIn", (), node("9")), ("LeaveOut", ("10",)), ("PutIn", (), node("11")),
        ])
        self.check(other, one, [
            ("PutIn", (), node("1")), ("LeaveOut", ("1a",)), ("PutIn", (), node("2")), ("LeaveOut", ("2b",)),
            ("LeaveOut", ("9",)), ("PutIn", (), node("10")), ("LeaveOut", ("11",)),
        ])

    def test_the_words_then_kids_of_one_alone_then_the_kids_of_both(self):
        one = tree_of(
            node("1", node("1", words=("a",)), node("2"), words=("a",)),
            node("2"),
            node("3", node("5", node("6"), words=("a",))),
            words=("a",),
        )
        other = tree_of(
            node("1", node("1", words=("b",)), node("1a"), words=("b",)),
            node("3", node("4"), node("5", node("7"), words=("b",))),
            node("4", node("1")),
            words=("b",),
        )
        self.check(one, other, [
            ("Read", (), ("b",)), ("LeaveOut", ("2",)), ("PutIn", (), node("4", node("1"))),
            ("Read", ("1",), ("b",)), ("PutIn", ("1",), node("1a")), ("LeaveOut", ("1", "2")),
            ("Read", ("1", "1"), ("b",)),
            ("PutIn", ("3",), node("4")),
            ("Read", ("3", "5"), ("b",)), ("LeaveOut", ("3", "5", "6")), ("PutIn", ("3", "5"), node("7")),
        ])

    def test_kids_of_one_alone_come_ahead_of_a_kid_of_both_with_a_lesser_label(self):
        one = tree_of(node("1", words=("a",)), node("2"))
        self.check(one, tree_of(node("1"), node("3")), [
            ("LeaveOut", ("2",)), ("PutIn", (), node("3")), ("Read", ("1",), ()),
        ])

    def test_kids_of_both_in_the_order_of_their_labels(self):
        labels = ["1", "2", "2a", "2aa", "2b", "9", "10", "100"]
        one = tree_of(*[node(label) for label in labels])
        other = tree_of(*[node(label, words=("a",)) for label in labels])
        self.check(one, other, [("Read", (label,), ("a",)) for label in labels])
        self.check(ALONE, other, [("PutIn", (), kid) for kid in other[2]])
        self.check(one, ALONE, [("LeaveOut", (label,)) for label in labels])

    def test_each_two_kids_are_gone_into_however_unlike(self):
        one = tree_of(node("1", node("1"), node("2"), node("3"), words=("a",)))
        other = tree_of(node("1", node("4"), node("5"), words=("b",)))
        self.check(one, other, [
            ("Read", ("1",), ("b",)), ("LeaveOut", ("1", "1")), ("LeaveOut", ("1", "2")), ("LeaveOut", ("1", "3")),
            ("PutIn", ("1",), node("4")), ("PutIn", ("1",), node("5")),
        ])

    def test_they_lead_there(self):
        classes = {}
        for seed in range(400):
            one, other = drawn_pair(random.Random(seed))
            self.check(one, other)
            for change in plain_changes(one, other):
                classes[type(change).__name__] = True
        self.assertEqual(set(classes), {"Read", "LeaveOut", "PutIn"})
        for seed in range(40):
            chance = random.Random(seed)
            self.check(deep_tree(chance), deep_tree(chance))

    def test_by_a_second_reckoning(self):
        for seed in range(300):
            one, other = drawn_pair(random.Random(seed))
            self.assertEqual(rows(plain_changes(one, other)), reckoned_changes(one, other))

    def test_told_anew_and_nothing_handed_in_is_changed(self):
        one = sample()
        other = rebuilt(sample(), ("1",), lambda kid: (kid[0], ("x",), kid[2][:2] + (node("7"), node("8"))))
        before = spelled((one, other))
        told = plain_changes(one, other)
        first = rows(told)
        self.assertEqual(len(first), 4)
        told[0].place = ("99",)
        told.pop()
        told.reverse()
        self.assertEqual(rows(plain_changes(one, other)), first)
        none = plain_changes(one, one)
        none.append("x")
        self.assertEqual(plain_changes(one, one), [])
        self.assertEqual((one, other), before)


def node_of(places, place):
    """The node at a place of a dict of places with their words."""
    labels = sorted([other[-1] for other in places if other[:-1] == place and other != place], key=rank)
    kids = tuple(node_of(places, place + (label,)) for label in labels)
    return (place[-1] if place else "", places[place], kids)


def sorted_places(places):
    return sorted(places, key=lambda place: [rank(label) for label in place])


def reckoned_changes(one, other):
    """The plain changes by a second way: over the places as such, each change with the place it is listed at."""
    here = flat(one)
    there = flat(other)
    told = []
    for place in sorted_places(here.keys() & there.keys()):
        if here[place] != there[place]:
            told.append(("Read", place, there[place]))
        for kid in sorted_places(here.keys() ^ there.keys()):
            if kid[:-1] == place:
                told.append(("LeaveOut", kid) if kid in here else ("PutIn", place, node_of(there, kid)))
    return told


def part_from(places, place):
    return {other: words for other, words in places.items() if other[:len(place)] == place}


def reckoned_together(first, one, other):
    """Two drafts brought together by a second way: over the places as such, one rule of the document each."""
    drafts = [flat(tree) for tree in (first, one, other)]
    joined = {}
    clashes = []
    gone_into = {(): True}
    for place in sorted_places(drafts[0].keys() | drafts[1].keys() | drafts[2].keys()):
        if place in gone_into or place[:-1] in gone_into:
            parts = [part_from(draft, place) for draft in drafts]
            has = [place in draft for draft in drafts]
            if all(has):
                gone_into[place] = True
                words = [draft[place] for draft in drafts]
                if words[1] == words[2] or words[2] == words[0]:
                    joined[place] = words[1]
                elif words[1] == words[0]:
                    joined[place] = words[2]
                else:
                    clashes.append(place)
            elif has[0]:
                lone = parts[1] or parts[2]
                if lone and lone != parts[0]:
                    clashes.append(place)
            elif not (has[1] and has[2]) or parts[1] == parts[2]:
                joined.update(parts[1] or parts[2])
            else:
                clashes.append(place)
    return ("clash", clashes) if clashes else ("tree", node_of(joined, ()))


ABOVE = ("4", "2b")


def deeper(tree):
    """The tree as a node two levels down in another one, the same round it each time."""
    kid = ("2b", tree[1], tree[2])
    return tree_of(node("3", words=("x",)), node("4", node("2"), kid, words=("y",)), node("5"), words=("z",))


class Checked(unittest.TestCase):
    def check_told(self, first, one, other, told):
        before = spelled((first, one, other))
        for drafts in [(one, other), (other, one)]:
            with self.subTest(first=first, drafts=drafts):
                answer = together(first, *drafts)
                self.assertEqual(answer, told)
                self.assertEqual((type(answer), type(answer[1])), (tuple, tuple if told[0] == "tree" else list))
                if told[0] == "tree":
                    for early, late in [drafts, drafts[::-1]]:
                        changes = plain_changes(first, early) + plain_changes(first, late)
                        self.assertEqual(led_passing(first, changes), told[1])
        self.assertEqual((first, one, other), before)

    def tree(self, first, one, other, told):
        self.check_told(first, one, other, ("tree", told))
        self.check_told(deeper(first), deeper(one), deeper(other), ("tree", deeper(told)))

    def clash(self, first, one, other, *places):
        self.check_told(first, one, other, ("clash", list(places)))
        self.check_told(deeper(first), deeper(one), deeper(other), ("clash", [ABOVE + place for place in places]))


class Words(Checked):
    def three(self, *rows_of_words):
        return [tree_of(node("1", words=("k",)), words=words) for words in rows_of_words]

    def test_both_the_same(self):
        a, b, none = self.three(("a",), ("b",), ())
        self.tree(a, b, b, b)
        self.tree(a, a, a, a)
        self.tree(a, none, none, none)
        self.tree(none, b, b, b)

    def test_one_as_the_first_tree(self):
        a, b, none = self.three(("a", "c"), ("b",), ())
        self.tree(a, a, b, b)
        self.tree(a, b, a, b)
        self.tree(a, a, none, none)
        self.tree(none, none, b, b)

    def test_all_unlike(self):
        a, b, c, none = self.three(("a",), ("b",), ("c",), ())
        self.clash(a, b, c, ())
        self.clash(a, b, none, ())
        self.clash(none, a, b, ())
        words = self.three(("a", "b"), ("b", "a"), ("a", "b", "a"))
        self.clash(*words, ())

    def test_at_several_places(self):
        first = tree_of(node("1", words=("a",)), node("2", words=("a",)), words=("a",))
        one = tree_of(node("1", words=("b",)), node("2", words=("a",)), words=("a",))
        other = tree_of(node("1", words=("a",)), node("2", words=("c",)), words=("d",))
        self.tree(first, one, other, tree_of(node("1", words=("b",)), node("2", words=("c",)), words=("d",)))


class Kids(Checked):
    KID = node("2", node("1", words=("p",)), node("3"), words=("k",))
    OTHER_WORDS = node("2", node("1", words=("p",)), node("3"), words=("m",))
    OTHER_WITHIN = node("2", node("1", words=("q",)), node("3"), words=("k",))
    OTHER_KIDS = node("2", node("1", words=("p",)), words=("k",))

    def with_kid(self, *kids):
        return tree_of(node("1", words=("w",)), *kids, node("7"))

    def test_of_all_three_is_gone_into(self):
        first = self.with_kid(self.KID)
        told = self.with_kid(node("2", node("1", words=("q",)), words=("m",)))
        one = self.with_kid(self.OTHER_WORDS)
        other = self.with_kid(node("2", node("1", words=("q",)), words=("k",)))
        self.tree(first, one, other, told)
        self.tree(first, first, first, first)
        self.tree(first, one, one, one)

    def test_lacking_in_both_drafts(self):
        first = self.with_kid(self.KID)
        self.tree(first, self.with_kid(), self.with_kid(), self.with_kid())

    def test_lacking_in_one_where_the_other_is_as_the_first(self):
        first = self.with_kid(self.KID)
        self.tree(first, self.with_kid(), first, self.with_kid())
        other = tree_of(node("1", words=("v",)), self.KID, words=("t",))
        self.tree(first, self.with_kid(), other, tree_of(node("1", words=("v",)), words=("t",)))

    def test_lacking_in_one_where_the_other_is_not_as_the_first(self):
        first = self.with_kid(self.KID)
        for kid in [self.OTHER_WORDS, self.OTHER_WITHIN, self.OTHER_KIDS]:
            self.clash(first, self.with_kid(), self.with_kid(kid), ("2",))

    def test_of_one_draft_alone(self):
        first = self.with_kid()
        for kid in [self.KID, node("2")]:
            self.tree(first, self.with_kid(kid), first, self.with_kid(kid))
        # By its label's order, wherever that is.
        one = tree_of(node("1", words=("w",)), node("1a"), node("7"))
        other = tree_of(node("1", words=("w",)), node("6"), node("7"), node("10"))
        told = tree_of(node("1", words=("w",)), node("1a"), node("6"), node("7"), node("10"))
        self.tree(first, one, other, told)

    def test_of_both_alike(self):
        self.tree(self.with_kid(), self.with_kid(self.KID), self.with_kid(self.KID), self.with_kid(self.KID))

    def test_of_both_unlike(self):
        first = self.with_kid()
        for kid in [self.OTHER_WORDS, self.OTHER_WITHIN, self.OTHER_KIDS]:
            self.clash(first, self.with_kid(self.KID), self.with_kid(kid), ("2",))

    def test_left_out_by_one_and_put_in_by_the_other_elsewhere(self):
        first = tree_of(node("1"), node("2", words=("a",)))
        one = tree_of(node("1"))
        other = tree_of(node("1", node("2", words=("a",))), node("2", words=("a",)), node("3"))
        self.tree(first, one, other, tree_of(node("1", node("2", words=("a",))), node("3")))

    def test_of_a_tree_alone(self):
        self.tree(ALONE, ALONE, ALONE, ALONE)
        self.tree(ALONE, self.with_kid(), ALONE, self.with_kid())
        self.tree(self.with_kid(self.KID), ALONE, self.with_kid(self.KID), ALONE)


class Clashes(Checked):
    def test_a_place_and_beneath_it_in_the_order_in_which_they_are_come_to(self):
        first = tree_of(
            node("1", node("1", words=("a",)), words=("a",)), node("2", words=("a",)), node("3", node("1")),
            node("10", words=("a",)), words=("a",),
        )
        one = tree_of(
            node("1", node("1", words=("b",)), node("1a", words=("b",)), words=("b",)), node("3", node("1"), node("2")),
            node("9", words=("b",)), node("10", words=("b",)), words=("b",),
        )
        other = tree_of(
            node("1", node("1", words=("c",)), node("1a", words=("c",)), words=("c",)), node("2", words=("c",)),
            node("9", words=("c",)), node("10", words=("c",)), words=("c",),
        )
        self.clash(first, one, other, (), ("1",), ("1", "1"), ("1", "1a"), ("2",), ("3",), ("9",), ("10",))

    def test_what_lies_beneath_a_kid_of_all_three_ahead_of_the_next_kid(self):
        # Kids of one draft alone and kids of all three stand among one another, unlike in the plain changes.
        first = tree_of(node("2", node("5", words=("a",))), node("4", node("5", words=("a",))))
        one = tree_of(node("1", words=("b",)), node("2", node("5", words=("b",))), node("3", words=("b",)),
                      node("4", node("5", words=("b",))))
        other = tree_of(node("1", words=("c",)), node("2", node("5", words=("c",))), node("3", words=("c",)),
                        node("4", node("5", words=("c",))))
        self.clash(first, one, other, ("1",), ("2", "5"), ("3",), ("4", "5"))

    def test_one_that_clashes_is_not_gone_into(self):
        first = tree_of(node("1", node("1", words=("a",)), words=("a",)))
        one = ALONE
        other = tree_of(node("1", node("1", words=("b",)), node("2"), words=("b",)))
        self.clash(first, one, other, ("1",))
        self.clash(ALONE, first, other, ("1",))

    def test_beneath_a_place_whose_words_clash_it_goes_on(self):
        first = tree_of(node("1", words=("a",)), words=("a",))
        one = tree_of(node("1", words=("b",)), words=("b",))
        other = tree_of(node("1", words=("c",)), words=("c",))
        self.clash(first, one, other, (), ("1",))
        self.clash(first, one, tree_of(node("1", words=("a",)), words=("c",)), ())
        self.clash(first, one, tree_of(words=("c",)), (), ("1",))

    def test_one_clash_amid_much_that_does_not(self):
        first = tree_of(node("1", words=("a",)), node("2", words=("a",)), node("3", words=("a",)))
        one = tree_of(node("1", words=("b",)), node("2", words=("b",)), words=("b",))
        other = tree_of(node("2", words=("c",)), node("3", words=("a",)), node("4"))
        self.clash(first, one, other, ("1",), ("2",))

    def test_by_numbers_not_by_figures(self):
        labels = ["1", "2", "2a", "2aa", "2b", "9", "10", "100"]
        drafts = [tree_of(*[node(label, words=words) for label in labels]) for words in [(), ("b",), ("c",)]]
        self.clash(*drafts, *[(label,) for label in labels])
        self.clash(ALONE, drafts[1], drafts[2], *[(label,) for label in labels])


class Whole(Checked):
    def test_one_draft_being_the_first_tree(self):
        for seed in range(150):
            first, one, other = drawn_drafts(random.Random(seed))
            self.check_told(first, first, one, ("tree", one))
            self.check_told(other, one, other, ("tree", one))

    def test_both_drafts_alike(self):
        for seed in range(150):
            first, one, other = drawn_drafts(random.Random(seed))
            self.check_told(first, one, one, ("tree", one))
            self.check_told(one, other, other, ("tree", other))

    def test_by_a_second_reckoning(self):
        met = {"tree": 0, "clash": 0}
        deepest = 0
        for seed in range(600):
            first, one, other = drawn_drafts(random.Random(seed))
            told = together(first, one, other)
            self.check_told(first, one, other, reckoned_together(first, one, other))
            met[told[0]] += 1
            if told[0] == "tree":
                self.assertTrue(is_tree(told[1]))
                deepest += deep(told[1]) == 9 and len({first, one, other, told[1]}) == 4
        self.assertGreater(met["tree"], 150)
        self.assertGreater(met["clash"], 150)
        self.assertGreater(deepest, 20)

    def test_by_the_names_of_the_arguments(self):
        kid = tree_of(node("1"))
        self.assertEqual(rows(plain_changes(one=kid, other=ALONE)), [("LeaveOut", ("1",))])
        self.assertEqual(together(first=kid, one=kid, other=ALONE), ("tree", ALONE))

    def test_a_list_told_anew(self):
        first = tree_of(node("1", words=("a",)), words=("a",))
        one = tree_of(node("1", words=("b",)), words=("b",))
        other = tree_of(node("1", words=("c",)), words=("c",))
        told = together(first, one, other)
        told[1].append("x")
        told[1].reverse()
        self.assertEqual(together(first, one, other), ("clash", [(), ("1",)]))
        self.assertEqual(together(first, one, first), ("tree", one))


class Helpers(unittest.TestCase):
    def test_the_order_of_the_second_reckoning_is_that_of_labels(self):
        labels = ["1", "1a", "1aa", "1b", "2", "10", "10a", "999999999zzz"]
        for spot, label in enumerate(labels):
            for other_spot, other in enumerate(labels):
                self.assertEqual(rank(label) < rank(other), spot < other_spot)
                self.assertEqual(label_before(label, other), spot < other_spot)


if __name__ == "__main__":
    unittest.main()
