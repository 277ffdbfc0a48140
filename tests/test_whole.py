"""The whole: over drawn books, all that is told of them agrees, and is as a book led on by hand has it."""

import random
import unittest

from books import book_of, chance_book, kept, spelled
from codemend.apart import are_apart
from codemend.changes import Anew
from codemend.counting import living, what_counts
from codemend.drafts import plain_changes, together
from codemend.fewest import distance, fewest
from codemend.origins import origins
from codemend.telling import story, text_of
from codemend.texts import read, shown
from codemend.trees import is_tree, node_at, places
from codemend.ways import comes_from, leads_to
from hand import Hand
from pairs import led, led_passing

# A day, from which day it is seen, and on which day the case began.
ASKED = [(-1, 20, 20), (14, 20, 20), (14, 20, 3), (9, 9, 9), (9, 4, 9), (6, 5, 0)]
# A day and a later one, from which day both are seen, and on which day the case began.
BETWEEN = [(-3, 14, 20, 20), (0, 14, 20, 5), (3, 9, 9, 9), (5, 7, 6, 7), (-1, 6, 3, 2), (4, 4, 20, 20)]


class Told(unittest.TestCase):
    def test_the_story_and_the_text_of_days(self):
        reasons = {}
        for seed in range(1000, 1100):
            book = chance_book(seed)
            before = kept(book)
            for day, seen, begun in ASKED:
                hand = Hand(book, seen, begun).go_on(day)
                tree = text_of(book, day, seen, begun)
                self.assertEqual(tree, hand.top.node())
                self.assertEqual(story(book, day, seen, begun), hand.story)
                self.assertTrue(is_tree(tree))
                self.assertEqual(read(shown(tree)), tree)
                reasons.update((why, True) for _, _, why in hand.story)
            self.assertEqual(kept(book), before)
        self.assertEqual(set(reasons), {None, "place", "words", "twice", "there", "whole"})

    def test_where_places_go_and_from_where_they_come(self):
        heads = {}
        for seed in range(1100, 1200):
            book = chance_book(seed)
            for day, later, seen, begun in BETWEEN:
                hand = Hand(book, seen, begun).go_on(day)
                early = dict(hand.spots())
                late = dict(hand.go_on(later).spots())
                now = {spot: place for place, spot in late.items()}
                then = {spot: place for place, spot in early.items()}
                for place, spot in early.items():
                    told = leads_to(book, place, day, later, seen, begun)
                    self.assertEqual(told, ("at", now[spot]) if spot in now else hand.gone[spot])
                    heads[told[0]] = True
                for place, spot in late.items():
                    told = comes_from(book, place, day, later, seen, begun)
                    self.assertEqual(told, ("at", then[spot]) if spot in then else spot.came)
                    heads[told[0]] = True
        self.assertEqual(set(heads), {"at", "gone", "new"})

    def test_where_places_go_both_ways_about(self):
        for seed in range(1200, 1300):
            book = chance_book(seed)
            for day, later, seen, begun in BETWEEN:
                early = places(text_of(book, day, seen, begun))
                late = places(text_of(book, later, seen, begun))
                led_on = [leads_to(book, place, day, later, seen, begun) for place in early]
                led_back = [comes_from(book, place, day, later, seen, begun) for place in late]
                pairs = [(place, told[1]) for place, told in zip(early, led_on) if told[0] == "at"]
                self.assertEqual(sorted(pairs), sorted((told[1], place) for place, told in zip(late, led_back)
                                                       if told[0] == "at"))
                self.assertEqual(len({place for _, place in pairs}), len(pairs))
                done = [(name, number) for name, number, why in story(book, later, seen, begun) if why is None]
                for told in led_on + led_back:
                    self.assertTrue(told[0] == "at" or told[1:3] in done)

    def test_from_where_words_come_at_every_place(self):
        met = 0
        for seed in range(1300, 1400):
            book = chance_book(seed)
            for day, seen, begun in ASKED:
                for place, spot in Hand(book, seen, begun).go_on(day).spots():
                    told = origins(book, place, day, seen, begun)
                    self.assertEqual(told, [mark for _, mark in spot.words])
                    self.assertEqual(len(told), len(node_at(text_of(book, day, seen, begun), place)[1]))
                    met += len(told)
        self.assertGreater(met, 1000)

    def test_an_act_taken_back_has_never_been(self):
        for seed in range(1400, 1480):
            drawn = chance_book(seed)
            rows = [(name, day, deeds if other is None else other) for name, day, other, deeds in drawn.acts()]
            spot = random.Random(seed).randrange(len(rows))
            last = ("last", rows[-1][1], rows[spot][0])
            one = book_of(drawn.first(), rows + [last])
            rows[spot] = rows[spot][:2] + ([],)
            other = book_of(drawn.first(), rows + [last])
            for day, later, seen, begun in [(0, 9, 20, 20), (-1, 14, last[1], 4)]:
                self.assertEqual([name for name in living(one, seen) if name != last[2]],
                                 [name for name in living(other, seen) if name != last[2]])
                self.assertEqual(spelled(what_counts(one, seen)), spelled(what_counts(other, seen)))
                self.assertEqual(story(one, later, seen, begun), story(other, later, seen, begun))
                for place in places(text_of(one, day, seen, begun)):
                    self.assertEqual(leads_to(one, place, day, later, seen, begun),
                                     leads_to(other, place, day, later, seen, begun))
                for place in places(text_of(one, later, seen, begun)):
                    self.assertEqual(comes_from(one, place, day, later, seen, begun),
                                     comes_from(other, place, day, later, seen, begun))
                    self.assertEqual(origins(one, place, later, seen, begun), origins(other, place, later, seen, begun))


class Changed(unittest.TestCase):
    def test_the_fewest_changes_are_no_more_than_those_done(self):
        met = {}
        for seed in range(1500, 1700):
            book = chance_book(seed)
            for day, later, seen, begun in BETWEEN:
                hand = Hand(book, seen, begun).go_on(day)
                ahead = len(hand.done)
                done = hand.go_on(later).done[ahead:]
                early = text_of(book, day, seen, begun)
                late = text_of(book, later, seen, begun)
                told = fewest(early, late)
                self.assertEqual(led(self, early, told), late)
                self.assertEqual(led(self, late, fewest(late, early)), early)
                self.assertEqual((len(told), len(told)), (distance(early, late), distance(late, early)))
                # By one numbering anew more may become of a text than by as many changes of the other kinds.
                if not any(isinstance(change, Anew) for change in done):
                    self.assertLessEqual(len(told), len(done))
                    met[len(done) - len(told)] = True
        self.assertTrue({0, 1, 2} <= set(met))

    def test_changes_that_are_apart_in_either_order(self):
        met = {True: 0, False: 0}
        for seed in range(1700, 1760):
            book = chance_book(seed)
            changes = [entry[3] for entry in what_counts(book, 20)]
            for day in [0, 5]:
                tree = text_of(book, day, 20)
                for one, other in zip(changes, changes[1:]):
                    apart = are_apart(one, other)
                    met[apart] += 1
                    if apart:
                        self.assertEqual(led_passing(tree, [one, other]), led_passing(tree, [other, one]))
        self.assertGreater(met[True], 100)
        self.assertGreater(met[False], 20)

    def test_texts_of_two_days_as_drafts_of_a_third(self):
        met = {"tree": 0, "clash": 0}
        for seed in range(1800, 2000):
            book = chance_book(seed)
            first = book.first()
            for one, other in [(text_of(book, 5), text_of(book, 9)), (text_of(book, 14, 3), text_of(book, 14))]:
                told = together(first, one, other)
                self.assertEqual(together(first, other, one), told)
                met[told[0]] += 1
                if told[0] == "tree":
                    for drafts in [(one, other), (other, one)]:
                        changes = plain_changes(first, drafts[0]) + plain_changes(first, drafts[1])
                        self.assertEqual(led_passing(first, changes), told[1])
                else:
                    for place in told[1]:
                        nodes = [node_at(tree, place) for tree in (first, one, other)]
                        self.assertNotIn(nodes[0], nodes[1:])
                        self.assertNotEqual(nodes[1], nodes[2])
        self.assertGreater(met["tree"], 50)
        self.assertGreater(met["clash"], 20)


if __name__ == "__main__":
    unittest.main()
