"""Which acts live and which changes count, seen from a day."""

import unittest

from codemend.acts import Book
from codemend.changes import Anew, LeaveOut, PutIn, Read, Swap
from codemend.counting import living, what_counts
from books import book_of, chance_book, kept, spelled
from samples import ALONE, sample

# One of each class, so that each change that is told can be known again.
SWAP = Swap(("1",), ("one",), ("new",))
READ = Read(("2",), ("other", "words"))
PUT_IN = PutIn((), ("7", ("seven",), ()))
LEAVE_OUT = LeaveOut(("1",))
ANEW = Anew(())
FAR = 10 ** 60 - 1


def change(day, what=READ, since=None):
    return ("change", day, what, since)


class Living(unittest.TestCase):
    def check(self, rows, told):
        """Each day with the names that live seen from it."""
        book = book_of(ALONE, rows)
        for seen, names in told:
            with self.subTest(rows=rows, seen=seen):
                self.assertEqual(living(book, seen), names)

    def test_no_acts(self):
        self.check([], [(-FAR, []), (-1, []), (0, []), (7, []), (FAR, [])])
        self.assertIs(type(living(Book(ALONE), 0)), list)

    def test_seen_from_days_ahead_of_on_between_and_behind(self):
        rows = [("one", -5, [change(1)]), ("two", 0, []), ("three", 4, [change(-9)])]
        self.check(rows, [
            (-FAR, []), (-6, []), (-5, ["one"]), (-4, ["one"]), (-1, ["one"]), (0, ["one", "two"]),
            (1, ["one", "two"]), (3, ["one", "two"]), (4, ["one", "two", "three"]), (5, ["one", "two", "three"]),
            (FAR, ["one", "two", "three"]),
        ])

    def test_great_days(self):
        self.check([("a", -FAR, []), ("b", FAR - 1, []), ("c", FAR, [])], [
            (-FAR - 1, []), (-FAR, ["a"]), (FAR - 2, ["a"]), (FAR - 1, ["a", "b"]), (FAR, ["a", "b", "c"]),
        ])

    def test_several_acts_on_one_day(self):
        rows = [("z", 3, []), ("y", 3, []), ("a", 3, []), ("m", 4, []), ("b", 4, [])]
        self.check(rows, [(2, []), (3, ["z", "y", "a"]), (4, ["z", "y", "a", "m", "b"])])

    def test_an_act_taken_back(self):
        rows = [("a", 1, [change(1)]), ("b", 2, []), ("c", 5, "a"), ("d", 8, [])]
        self.check(rows, [
            (0, []), (1, ["a"]), (2, ["a", "b"]), (4, ["a", "b"]), (5, ["b", "c"]), (7, ["b", "c"]),
            (8, ["b", "c", "d"]), (FAR, ["b", "c", "d"]),
        ])

    def test_taken_back_on_the_same_day(self):
        self.check([("a", 1, []), ("b", 1, "a")], [(0, []), (1, ["b"])])
        self.check([("a", 1, []), ("b", 1, "a"), ("c", 1, "b"), ("d", 1, "c")], [(0, []), (1, ["b", "d"])])

    def test_the_taking_back_taken_back_and_that_again(self):
        rows = [("a", 1, []), ("b", 2, "a"), ("c", 3, "b"), ("d", 4, "c"), ("e", 5, "d")]
        self.check(rows, [
            (1, ["a"]), (2, ["b"]), (3, ["a", "c"]), (4, ["b", "d"]), (5, ["a", "c", "e"]),
        ])

    def test_taken_back_by_two(self):
        rows = [("a", 1, []), ("b", 2, "a"), ("c", 3, "a"), ("d", 4, "b"), ("e", 5, "c")]
        self.check(rows, [
            (1, ["a"]), (2, ["b"]), (3, ["b", "c"]), (4, ["c", "d"]), (5, ["a", "d", "e"]),
        ])
        # The other one of the two is taken back.
        rows = [("a", 1, []), ("b", 2, "a"), ("c", 3, "a"), ("d", 4, "c")]
        self.check(rows, [(3, ["b", "c"]), (4, ["b", "d"])])

    def test_two_rows_of_takings_back_amid_one_another(self):
        rows = [("a", 1, []), ("b", 2, "a"), ("c", 2, []), ("d", 3, "b"), ("e", 4, "c"), ("f", 4, "d")]
        self.check(rows, [(3, ["a", "c", "d"]), (4, ["b", "e", "f"])])

    def test_the_last_one_lives(self):
        for seed in range(60):
            book = chance_book(seed)
            for seen in range(-1, 22):
                made = [act[0] for act in book.acts() if act[1] <= seen]
                self.assertEqual(living(book, seen)[-1:], made[-1:])

    def test_just_those_that_no_living_one_behind_takes_back(self):
        dead = 0
        for seed in range(200):
            book = chance_book(seed)
            for seen in range(-1, 22):
                acts = [act for act in book.acts() if act[1] <= seen]
                names = living(book, seen)
                for spot, act in enumerate(acts):
                    takers = [behind[0] for behind in acts[spot + 1:] if behind[2] == act[0]]
                    lives = not any(taker in names for taker in takers)
                    self.assertEqual(act[0] in names, lives)
                    dead += not lives
                self.assertEqual(names, [act[0] for act in acts if act[0] in names])
        self.assertGreater(dead, 100)

    def test_told_anew_each_time(self):
        book = book_of(ALONE, [("a", 1, []), ("b", 2, [])])
        before = kept(book)
        told = living(book, 2)
        self.assertIs(type(told), list)
        told.append("c")
        told[0] = "x"
        self.assertEqual(living(book, 2), ["a", "b"])
        living(book, 1).clear()
        living(book, 0).append("x")
        self.assertEqual(living(book, 0), [])
        self.assertEqual(living(book, 1), ["a"])
        self.assertEqual(kept(book), before)

    def test_behind_more_acts(self):
        book = Book(ALONE)
        self.assertEqual(living(book, 9), [])
        book.act("a", 1, [])
        self.assertEqual(living(book, 9), ["a"])
        book.back("b", 2, "a")
        self.assertEqual(living(book, 9), ["b"])
        self.assertEqual(living(book, 1), ["a"])
        book.back("c", 3, "b")
        self.assertEqual(living(book, 9), ["a", "c"])
        self.assertEqual(living(book, 2), ["b"])
        self.assertEqual(living(book, 1), ["a"])


class Counted(unittest.TestCase):
    def check(self, rows, seen, told):
        book = book_of(sample(), rows)
        before = kept(book)
        with self.subTest(rows=spelled(rows), seen=seen):
            for _ in range(2):
                self.assertEqual(spelled(what_counts(book, seen)), spelled(told))
                self.assertEqual(kept(book), before)

    def check_days(self, rows, told):
        for seen, entries in told:
            self.check(rows, seen, entries)


class PlainChanges(Counted):
    def test_none(self):
        for rows in [[], [("a", 1, [])], [("a", 1, []), ("b", 1, "a")], [("a", 5, [change(1)])]]:
            self.check(rows, 3, [])
        self.assertIs(type(what_counts(Book(ALONE), 0)), list)

    def test_changes_of_one_act(self):
        deeds = [change(5, SWAP), change(6, READ, 4), change(7, PUT_IN), change(8, LEAVE_OUT, -3), change(9, ANEW)]
        self.check_days([("one", 2, deeds)], [
            (1, []),
            (2, [(5, "one", 0, SWAP, None), (6, "one", 1, READ, 4), (7, "one", 2, PUT_IN, None),
                 (8, "one", 3, LEAVE_OUT, -3), (9, "one", 4, ANEW, None)]),
        ])

    def test_a_day_that_is_not_come_yet_counts_all_the_same(self):
        self.check([("one", 2, [change(FAR), change(-FAR, ANEW, FAR)])], 2, [
            (-FAR, "one", 1, ANEW, FAR), (FAR, "one", 0, READ, None),
        ])

    def test_changes_of_several_acts(self):
        rows = [("one", 1, [change(9, SWAP), change(3, ANEW)]), ("two", 4, []), ("three", 5, [change(6)])]
        self.check_days(rows, [
            (0, []),
            (1, [(3, "one", 1, ANEW, None), (9, "one", 0, SWAP, None)]),
            (4, [(3, "one", 1, ANEW, None), (9, "one", 0, SWAP, None)]),
            (5, [(3, "one", 1, ANEW, None), (6, "three", 0, READ, None), (9, "one", 0, SWAP, None)]),
        ])

    def test_in_the_order_of_days(self):
        deeds = [change(10), change(-10), change(9), change(0), change(-9), change(-100), change(100), change(2)]
        told = [(-100, 5), (-10, 1), (-9, 4), (0, 3), (2, 7), (9, 2), (10, 0), (100, 6)]
        self.check([("a", 0, deeds)], 0, [(day, "a", number, READ, None) for day, number in told])

    def test_days_alike_are_told_by_the_acts_order_and_then_by_the_numbers(self):
        rows = [
            ("zz", 1, [change(5, SWAP), change(4, ANEW), change(5, ANEW)]),
            ("b", 1, [change(5, READ), change(4, READ), change(4, SWAP), change(5, LEAVE_OUT)]),
            ("a", 2, [change(5, PUT_IN), change(4, PUT_IN)]),
        ]
        self.check(rows, 2, [
            (4, "zz", 1, ANEW, None), (4, "b", 1, READ, None), (4, "b", 2, SWAP, None), (4, "a", 1, PUT_IN, None),
            (5, "zz", 0, SWAP, None), (5, "zz", 2, ANEW, None), (5, "b", 0, READ, None),
            (5, "b", 3, LEAVE_OUT, None), (5, "a", 0, PUT_IN, None),
        ])

    def test_numbers_are_ordered_as_numbers_and_since_plays_no_part(self):
        deeds = [change(5, READ, 20 - number) for number in range(12)]
        self.check([("a", 1, deeds)], 1, [(5, "a", number, READ, 20 - number) for number in range(12)])

    def test_a_day_ahead_of_the_act_that_tells_it(self):
        rows = [("b", 10, [change(12)]), ("a", 20, [change(3, ANEW), change(12, SWAP), change(-4, SWAP, 2)])]
        self.check_days(rows, [
            (19, [(12, "b", 0, READ, None)]),
            (20, [(-4, "a", 2, SWAP, 2), (3, "a", 0, ANEW, None), (12, "b", 0, READ, None),
                  (12, "a", 1, SWAP, None)]),
        ])

    def test_an_act_that_is_taken_back_does_not_count(self):
        rows = [("a", 1, [change(5)]), ("b", 2, [change(4, ANEW)]), ("c", 3, "a"), ("d", 6, "c")]
        self.check_days(rows, [
            (1, [(5, "a", 0, READ, None)]),
            (2, [(4, "b", 0, ANEW, None), (5, "a", 0, READ, None)]),
            (3, [(4, "b", 0, ANEW, None)]),
            (5, [(4, "b", 0, ANEW, None)]),
            (6, [(4, "b", 0, ANEW, None), (5, "a", 0, READ, None)]),
        ])

    def test_the_number_is_that_among_all_deeds(self):
        rows = [("a", 1, [change(9)]), ("b", 2, [("drop", "a", 7), change(3, SWAP), ("drop", "a", 8), change(2, ANEW)])]
        self.check(rows, 2, [(2, "b", 3, ANEW, None), (3, "b", 1, SWAP, None), (9, "a", 0, READ, None)])

    def test_changes_that_do_not_fit_count_too(self):
        missing = LeaveOut(("99",))
        self.check([("a", 1, [change(1, missing), change(2, missing)])], 1, [
            (1, "a", 0, missing, None), (2, "a", 1, missing, None),
        ])

    def test_told_anew_each_time(self):
        book = book_of(ALONE, [("a", 1, [change(5), change(4, ANEW, 3)])])
        before = kept(book)
        told = what_counts(book, 1)
        self.assertIs(type(told), list)
        self.assertEqual([type(entry) for entry in told], [tuple, tuple])
        told.append("x")
        told[0] = None
        expected = [(4, "a", 1, ANEW, 3), (5, "a", 0, READ, None)]
        self.assertEqual(spelled(what_counts(book, 1)), spelled(expected))
        what_counts(book, 0).append("x")
        self.assertEqual(what_counts(book, 0), [])
        self.assertEqual(kept(book), before)

    def test_behind_more_acts(self):
        book = book_of(ALONE, [("a", 1, [change(5)])])
        first = [(5, "a", 0, READ, None)]
        self.assertEqual(spelled(what_counts(book, 9)), spelled(first))
        book.act("b", 2, [("later", "a", 0, 8), change(6, ANEW)])
        self.assertEqual(spelled(what_counts(book, 9)), spelled([(6, "b", 1, ANEW, None), (8, "a", 0, READ, None)]))
        self.assertEqual(spelled(what_counts(book, 1)), spelled(first))
        book.back("c", 3, "b")
        self.assertEqual(spelled(what_counts(book, 9)), spelled(first))

    def test_what_is_done_later_to_the_list_of_deeds_changes_nothing(self):
        deeds = [change(5)]
        book = book_of(ALONE, [("a", 1, deeds)])
        deeds.append(change(6))
        deeds[0] = change(7)
        self.assertEqual(spelled(what_counts(book, 1)), spelled([(5, "a", 0, READ, None)]))


class FindingDeeds(Counted):
    """Later, instead and drop: which deed each finds, and what becomes of it."""

    def deeds_upon(self, name, number):
        """Each kind, with what is told of the change READ of day 9, since 2, where it is found."""
        return [
            (("later", name, number, 30), [(30, "a", 0, READ, 2)]),
            (("instead", name, number, ANEW), [(9, "a", 0, ANEW, 2)]),
            (("drop", name, number), []),
        ]

    def test_the_day_of_the_change_against_that_of_the_act(self):
        plain = [(9, "a", 0, READ, 2)]
        for deed, told in self.deeds_upon("a", 0):
            for made, found in [(1, True), (8, True), (9, False), (10, False), (50, False)]:
                self.check_days([("a", 1, [change(9, READ, 2)]), ("b", made, [deed])], [
                    (0, []), (made, told if found else plain), (FAR, told if found else plain),
                ])
                if made > 1:
                    self.check([("a", 1, [change(9, READ, 2)]), ("b", made, [deed])], made - 1, plain)

    def test_days_below_nought(self):
        plain = [(-9, "a", 0, READ, 2)]
        for made, found in [(-20, True), (-10, True), (-9, False), (-8, False), (9, False)]:
            rows = [("a", -20, [change(-9, READ, 2)]), ("b", made, [("later", "a", 0, -30)])]
            self.check(rows, made, [(-30, "a", 0, READ, 2)] if found else plain)
            rows = [("a", -20, [change(-9, READ, 2)]), ("b", made, [("drop", "a", 0)])]
            self.check(rows, made, [] if found else plain)

    def test_a_change_that_was_in_force_when_its_act_was_made(self):
        for deed, told in self.deeds_upon("a", 0):
            self.check([("a", 5, [change(3, READ, 2)]), ("b", 5, [deed])], 5, [(3, "a", 0, READ, 2)])
            self.check([("a", 5, [change(5, READ, 2)]), ("b", 5, [deed])], 5, [(5, "a", 0, READ, 2)])

    def test_seen_from_a_day_behind_the_change_it_is_the_acts_day_that_is_asked(self):
        for deed, told in self.deeds_upon("a", 0):
            rows = [("a", 1, [change(9, READ, 2)]), ("b", 4, [deed])]
            self.check_days(rows, [
                (3, [(9, "a", 0, READ, 2)]), (4, told), (9, told), (10, told), (FAR, told),
            ])

    def test_a_number_that_no_deed_has(self):
        for number in [1, 2, 59, -1, -2, FAR]:
            for deed, told in self.deeds_upon("a", number):
                self.check([("a", 1, [change(9, READ, 2)]), ("b", 1, [deed])], 1, [(9, "a", 0, READ, 2)])
        for number in [0, 1, -1]:
            for deed, told in self.deeds_upon("a", number):
                self.check([("a", 1, []), ("b", 1, [deed])], 1, [])

    def test_a_deed_of_an_act_that_takes_back(self):
        for deed, told in self.deeds_upon("b", 0):
            rows = [("o", 1, []), ("a", 1, [change(9, READ, 2)]), ("b", 1, "o"), ("c", 1, [deed])]
            self.check(rows, 1, [(9, "a", 0, READ, 2)])

    def test_a_deed_that_is_no_change(self):
        ahead = [("a", 1, [change(9, READ, 2)])]
        for named in [("later", "a", 0, 20), ("instead", "a", 0, SWAP), ("drop", "a", 0)]:
            plain = spelled(what_counts(book_of(ALONE, ahead + [("b", 1, [named])]), 1))
            for deed, told in self.deeds_upon("b", 0):
                rows = ahead + [("b", 1, [named]), ("c", 1, [deed])]
                with self.subTest(named=spelled(named), deed=spelled(deed)):
                    self.assertEqual(spelled(what_counts(book_of(ALONE, rows), 1)), plain)

    def test_the_deed_of_the_right_act_and_number_is_found(self):
        ahead = [
            ("a", 1, [change(9, READ), change(9, SWAP)]), ("b", 1, [change(9, SWAP), ("drop", "a", 5), change(9)]),
        ]
        self.check(ahead + [("c", 1, [("later", "b", 0, 10), ("instead", "a", 1, ANEW), ("drop", "b", 2)])], 1, [
            (9, "a", 0, READ, None), (9, "a", 1, ANEW, None), (10, "b", 0, SWAP, None),
        ])

    def test_of_an_act_that_does_not_live(self):
        for deed, told in self.deeds_upon("a", 0):
            rows = [("a", 1, [change(9, READ, 2)]), ("b", 2, "a"), ("c", 3, [deed, change(20, ANEW)])]
            self.check_days(rows, [
                (1, [(9, "a", 0, READ, 2)]), (2, []), (3, [(20, "c", 1, ANEW, None)]),
            ])
            # Taken back behind the deed that names it.
            rows = [("a", 1, [change(9, READ, 2)]), ("c", 2, [deed]), ("b", 3, "a")]
            self.check_days(rows, [(2, told), (3, [])])
            # It lives again: then it is found, also by a deed that was made while it did not live.
            rows = [("a", 1, [change(9, READ, 2)]), ("b", 2, "a"), ("c", 3, [deed]), ("d", 4, "b")]
            self.check_days(rows, [(3, []), (4, told)])

    def test_by_an_act_that_is_taken_back_itself(self):
        plain = [(9, "a", 0, READ, 2)]
        for deed, told in self.deeds_upon("a", 0):
            rows = [("a", 1, [change(9, READ, 2)]), ("b", 2, [deed]), ("c", 4, "b"), ("d", 6, "c")]
            self.check_days(rows, [(1, plain), (2, told), (3, told), (4, plain), (5, plain), (6, told)])

    def test_of_one_that_was_dropped(self):
        for deed, told in self.deeds_upon("a", 0):
            rows = [("a", 1, [change(9, READ, 2)]), ("b", 2, [("drop", "a", 0)]), ("c", 3, [deed])]
            self.check_days(rows, [(1, [(9, "a", 0, READ, 2)]), (2, []), (3, [])])
            # Both in one act.
            self.check([("a", 1, [change(9, READ, 2)]), ("b", 2, [("drop", "a", 0), deed])], 2, [])
            # Without the dropping it is found.
            self.check(rows[:2] + [("t", 2, "b")] + rows[2:], 3, told)

    def test_instead_keeps_day_and_since(self):
        for since in [None, 0, -4, 12]:
            rows = [("a", 1, [change(9, READ, since)]), ("b", 2, [("instead", "a", 0, SWAP)])]
            self.check(rows, 2, [(9, "a", 0, SWAP, since)])

    def test_later_keeps_change_and_since_and_may_be_earlier(self):
        for since in [None, 0, -4, 12]:
            for day in [-50, 1, 2, 3, 8, 9, 10, FAR]:
                rows = [("a", 1, [change(9, SWAP, since)]), ("b", 2, [("later", "a", 0, day)])]
                self.check(rows, 2, [(day, "a", 0, SWAP, since)])

    def test_later_moves_it_in_the_order(self):
        ahead = [("z", 1, [change(9, READ), change(9, SWAP)]), ("b", 1, [change(10, ANEW), change(8, PUT_IN)])]
        self.check(ahead + [("a", 2, [("later", "z", 0, 10)])], 2, [
            (8, "b", 1, PUT_IN, None), (9, "z", 1, SWAP, None), (10, "z", 0, READ, None), (10, "b", 0, ANEW, None),
        ])
        # By the order of the acts and numbers among days alike, whatever was put off last.
        self.check(ahead + [("a", 2, [("later", "b", 1, 9), ("later", "z", 1, 9), ("later", "b", 0, 9)])], 2, [
            (9, "z", 0, READ, None), (9, "z", 1, SWAP, None), (9, "b", 0, ANEW, None), (9, "b", 1, PUT_IN, None),
        ])


class OneBehindTheOther(Counted):
    def test_later_to_a_day_that_is_past_for_the_next_one(self):
        for deed in [("later", "a", 0, 40), ("instead", "a", 0, ANEW), ("drop", "a", 0)]:
            rows = [("a", 1, [change(9)]), ("b", 2, [("later", "a", 0, 5)]), ("c", 5, [deed])]
            self.check_days(rows, [(1, [(9, "a", 0, READ, None)]), (2, [(5, "a", 0, READ, None)]),
                                   (5, [(5, "a", 0, READ, None)])])
            rows = [("a", 1, [change(9)]), ("b", 2, [("later", "a", 0, 2), deed])]
            self.check(rows, 2, [(2, "a", 0, READ, None)])

    def test_later_to_a_day_that_is_not_past_for_the_next_one_any_more(self):
        ahead = [("a", 1, [change(9, READ, 3)]), ("b", 8, [("later", "a", 0, 20)])]
        for deed, told in [(("later", "a", 0, 40), [(40, "a", 0, READ, 3)]),
                           (("instead", "a", 0, ANEW), [(20, "a", 0, ANEW, 3)]), (("drop", "a", 0), [])]:
            for made, found in [(8, True), (9, True), (19, True), (20, False), (21, False)]:
                self.check(ahead + [("c", made, [deed])], made, told if found else [(20, "a", 0, READ, 3)])
            # Without the first one it would be past.
            self.check(ahead + [("t", 8, "b"), ("c", 9, [deed])], 9, [(9, "a", 0, READ, 3)])

    def test_later_and_then_drop(self):
        rows = [("a", 1, [change(9)]), ("b", 2, [("later", "a", 0, 20)]), ("c", 15, [("drop", "a", 0)])]
        self.check_days(rows, [(2, [(20, "a", 0, READ, None)]), (14, [(20, "a", 0, READ, None)]), (15, [])])

    def test_later_twice(self):
        rows = [("a", 1, [change(9)]), ("b", 2, [("later", "a", 0, 20)]), ("c", 3, [("later", "a", 0, 12)])]
        self.check_days(rows, [(2, [(20, "a", 0, READ, None)]), (3, [(12, "a", 0, READ, None)])])

    def test_instead_twice(self):
        rows = [("a", 1, [change(9, READ, 2)]), ("b", 2, [("instead", "a", 0, SWAP)]),
                ("c", 3, [("instead", "a", 0, ANEW)])]
        self.check_days(rows, [(1, [(9, "a", 0, READ, 2)]), (2, [(9, "a", 0, SWAP, 2)]), (3, [(9, "a", 0, ANEW, 2)])])
        # With the last one taken back, and with the one between.
        self.check(rows + [("d", 4, "c")], 4, [(9, "a", 0, SWAP, 2)])
        self.check(rows + [("d", 4, "b")], 4, [(9, "a", 0, ANEW, 2)])

    def test_drop_and_then_instead_or_later(self):
        for deed in [("instead", "a", 0, ANEW), ("later", "a", 0, 30), ("drop", "a", 0)]:
            rows = [("a", 1, [change(9)]), ("b", 2, [("drop", "a", 0)]), ("c", 3, [deed])]
            self.check_days(rows, [(1, [(9, "a", 0, READ, None)]), (2, []), (3, [])])

    def test_several_in_one_act_in_their_order(self):
        ahead = [("a", 1, [change(9, READ, 2)])]
        for deeds, told in [
            ([("later", "a", 0, 20), ("instead", "a", 0, ANEW)], [(20, "a", 0, ANEW, 2)]),
            ([("instead", "a", 0, ANEW), ("later", "a", 0, 20)], [(20, "a", 0, ANEW, 2)]),
            ([("instead", "a", 0, ANEW), ("instead", "a", 0, SWAP)], [(9, "a", 0, SWAP, 2)]),
            ([("later", "a", 0, 20), ("later", "a", 0, 15)], [(15, "a", 0, READ, 2)]),
            ([("later", "a", 0, 4), ("later", "a", 0, 15)], [(4, "a", 0, READ, 2)]),
            ([("later", "a", 0, 5), ("later", "a", 0, 15)], [(15, "a", 0, READ, 2)]),
            ([("later", "a", 0, 4), ("drop", "a", 0)], [(4, "a", 0, READ, 2)]),
            ([("later", "a", 0, 3), ("instead", "a", 0, ANEW)], [(3, "a", 0, READ, 2)]),
            ([("instead", "a", 0, ANEW), ("later", "a", 0, 3)], [(3, "a", 0, ANEW, 2)]),
            ([("drop", "a", 0), ("later", "a", 0, 20), ("instead", "a", 0, ANEW)], []),
        ]:
            self.check(ahead + [("b", 4, deeds)], 4, told)

    def test_of_several_changes(self):
        ahead = [("a", 1, [change(9), change(9, SWAP), change(9, PUT_IN), change(9, LEAVE_OUT)])]
        deeds = [("drop", "a", 2), ("later", "a", 0, 10), change(9, ANEW), ("instead", "a", 3, ANEW)]
        self.check(ahead + [("b", 4, deeds)], 4, [
            (9, "a", 1, SWAP, None), (9, "a", 3, ANEW, None), (9, "b", 2, ANEW, None), (10, "a", 0, READ, None),
        ])

    def test_upon_a_change_of_an_act_that_did_so_itself(self):
        rows = [
            ("a", 1, [change(9)]), ("b", 2, [("drop", "a", 0), change(9, SWAP)]), ("c", 3, [("instead", "b", 1, ANEW)]),
            ("d", 4, "b"),
        ]
        self.check_days(rows, [
            (1, [(9, "a", 0, READ, None)]), (2, [(9, "b", 1, SWAP, None)]), (3, [(9, "b", 1, ANEW, None)]),
            (4, [(9, "a", 0, READ, None)]),
        ])


def counted_by_hand(book, seen):
    """What counts, told once more in another way: deed by deed over rows that are looked through each time."""
    names = living(book, seen)
    acts = [act for act in book.acts() if act[0] in names]
    rows = []
    for spot, (name, made, other, deeds) in enumerate(acts):
        for number, deed in enumerate(deeds):
            if deed[0] == "change":
                rows.append([deed[1], spot, number, name, deed[2], deed[3]])
                continue
            for row in [row for row in rows if (row[3], row[2]) == (deed[1], deed[2]) and row[0] > made]:
                if deed[0] == "later":
                    row[0] = deed[3]
                elif deed[0] == "instead":
                    row[4] = deed[3]
                else:
                    rows.remove(row)
    rows.sort(key=lambda row: row[:3])
    return [(day, name, number, what, since) for day, spot, number, name, what, since in rows]


class ByChance(unittest.TestCase):
    def test_as_counted_by_hand(self):
        for seed in range(300):
            book = chance_book(seed)
            for seen in range(-1, 20):
                told = spelled(what_counts(book, seen))
                self.assertEqual(told, spelled(counted_by_hand(book, seen)), (seed, seen))

    def test_seen_from_behind_an_act_that_is_taken_back_has_never_been(self):
        taken = 0
        for seed in range(300):
            book = chance_book(seed)
            for seen in range(-1, 20):
                names = living(book, seen)
                rows = []
                for name, day, other, deeds in book.acts():
                    dead = day <= seen and name not in names
                    taken += dead
                    rows.append((name, day, [] if dead else (deeds if other is None else other)))
                without = book_of(book.first(), rows)
                self.assertEqual(spelled(what_counts(without, seen)), spelled(what_counts(book, seen)))
                self.assertEqual([name for name in living(without, seen) if name in names], names)
        self.assertGreater(taken, 100)


if __name__ == "__main__":
    unittest.main()
