"""The desk: its rows, and the answer to each."""

import unittest

from books import book_of, chance_book
from codemend.desk import Desk
from codemend.errors import MendError, NoText
from codemend.fewest import distance
from codemend.origins import origins
from codemend.telling import story, text_of
from codemend.texts import place_text, shown
from codemend.trees import places
from codemend.ways import comes_from, leads_to
from rows import act_row, desk_of, said, sayable
from samples import no_texts, sample

FIRST = ". all\n1 one two\n1.1a three\n2"


class Asked(unittest.TestCase):
    def check(self, desk, row, answer):
        with self.subTest(row=row):
            self.assertEqual(desk.say(row), answer)
            self.assertIs(type(desk.say(row)), str)


class Making(unittest.TestCase):
    def test_the_text_of_a_tree(self):
        for text in [".", FIRST, ". a b\n1\n2a c", shown(sample())]:
            self.assertEqual(Desk(text).say("text 0"), text)

    def test_what_is_no_text_of_a_tree(self):
        for thing in no_texts() + ["", " ", "1", "..", ". ", ". A", ".\n2\n1", ".\n1.1", ".\n", ". a_b", FIRST + "\n"]:
            with self.assertRaises(NoText) as caught:
                Desk(thing)
            self.assertIsInstance(caught.exception, MendError)

    def test_by_the_names_of_the_arguments(self):
        self.assertEqual(Desk(text=FIRST).say(row="text 0"), FIRST)

    def test_two_desks_keep_two_books(self):
        one = said(FIRST, "act a 1 1 out 1")
        other = said(FIRST, "act a 1 1 out 2")
        self.assertEqual(one.say("text 1"), ". all\n2")
        self.assertEqual(other.say("text 1"), ". all\n1 one two\n1.1a three")
        self.assertEqual(Desk(FIRST).say("text 1"), FIRST)


class Acts(Asked):
    def test_without_deeds(self):
        desk = Desk(FIRST)
        for row in ["act a 0", "act abcdefgh 0", "act b 5"]:
            self.assertEqual(desk.say(row), "ok")
        self.check(desk, "text 9", FIRST)
        self.check(desk, "story 9", "")
        self.assertEqual(desk.say("act c 5 drop abcdefgh 0"), "ok")

    def test_with_one_deed_and_with_several(self):
        desk = said(FIRST, "act a 0 1 out 1.1a", "act b 0 2 out 1; 3 read 2 x; 4 anew .")
        self.check(desk, "text 0", FIRST)
        self.check(desk, "text 1", ". all\n1 one two\n2")
        self.check(desk, "text 2", ". all\n2")
        self.check(desk, "text 3", ". all\n2 x")
        self.check(desk, "text 4", ". all\n1 x")
        self.check(desk, "story 4", "a 0 done; b 0 done; b 1 done; b 2 done")

    def test_each_kind_of_change(self):
        for change, text in [
            ("swap 1 two x", ". all\n1 one x\n1.1a three\n2"),
            ("swap 1 one_two x_y_z", ". all\n1 x y z\n1.1a three\n2"),
            ("swap . all _", ".\n1 one two\n1.1a three\n2"),
            ("swap 1.1a three three_4", ". all\n1 one two\n1.1a three 4\n2"),
            ("read . a", ". a\n1 one two\n1.1a three\n2"),
            ("read 1 _", ". all\n1\n1.1a three\n2"),
            ("read 1.1a a_b_c", ". all\n1 one two\n1.1a a b c\n2"),
            ("in . 1a x", ". all\n1 one two\n1.1a three\n1a x\n2"),
            ("in . 999999999zzz _", FIRST + "\n999999999zzz"),
            ("in 1.1a 3 x_y", ". all\n1 one two\n1.1a three\n1.1a.3 x y\n2"),
            ("out 1", ". all\n2"),
            ("out 1.1a", ". all\n1 one two\n2"),
            ("anew 1", ". all\n1 one two\n1.1 three\n2"),
            ("anew .", FIRST),
        ]:
            desk = said(FIRST, f"act a 0 1 {change}")
            self.check(desk, "text 0", FIRST)
            self.check(desk, "text 1", text)
            self.check(desk, "story 1", "a 0 done")
            self.check(desk, "story 0", "")
            late = said(FIRST, f"act a 0 1 since 4 {change}")
            self.check(late, "text 3", FIRST)
            self.check(late, "text 4", text)
            self.check(late, "text 1 1 4", text)
            self.check(late, "text 9 9 3", FIRST)
            other = said(FIRST, "act a 0 3 out 2", f"act b 1 instead a 0 {change}")
            self.check(other, "text 3", text)
            self.check(other, "text 3 0", ". all\n1 one two\n1.1a three")

    def test_later(self):
        desk = said(FIRST, "act a 0 3 out 2; 3 out 1", "act b 1 later a 1 5")
        self.check(desk, "text 3", ". all\n1 one two\n1.1a three")
        self.check(desk, "text 4", ". all\n1 one two\n1.1a three")
        self.check(desk, "text 5", ". all")
        self.check(desk, "text 3 0", ". all")
        self.assertEqual(desk.say("act c 2 later a 1 -7"), "ok")
        self.check(desk, "text -7 2", ". all\n2")

    def test_instead(self):
        desk = said(FIRST, "act a 0 3 since 2 out 2; 3 out 1", "act b 1 instead a 0 in . 3 _")
        self.check(desk, "text 3", ". all\n2\n3")
        self.check(desk, "text 3 3 1", ". all\n2")

    def test_drop(self):
        desk = said(FIRST, "act a 0 3 out 2; 3 out 1", "act b 1 drop a 1")
        self.check(desk, "text 3", ". all\n1 one two\n1.1a three")
        self.check(desk, "story 3", "a 0 done")

    def test_deeds_of_each_kind_in_one_act(self):
        desk = said(FIRST, "act a 0 5 out 1; 5 out 2; 5 read . x; 6 since 9 read . y",
                    "act b 1 later a 0 7; instead a 1 read 2 z; drop a 2; 8 since -2 in 2 1 w; 4 anew 1")
        self.check(desk, "story 9", "b 4 done; a 1 done; a 3 done; a 0 done; b 3 done")
        self.check(desk, "text 9", ". y\n2 z\n2.1 w")
        self.check(desk, "text 9 9 -3", ". all\n2 z")

    def test_numbers_that_name_no_deed(self):
        desk = said(FIRST, "act a 0 3 out 1", "act b 1 drop a 1; later a 999999999 9; instead a 7 anew .")
        self.check(desk, "story 3", "a 0 done")

    def test_back(self):
        desk = said(FIRST, "act a 0 1 out 1; 1 read . x", "back b 2 a")
        self.check(desk, "text 1", ". x\n2")
        self.check(desk, "text 2", FIRST)
        self.check(desk, "text 1 2", FIRST)
        self.assertEqual(desk.say("back c 3 b"), "ok")
        self.check(desk, "text 3", ". x\n2")
        self.check(desk, "text 2", FIRST)

    def test_days_of_all_sizes(self):
        desk = said(FIRST, "act a -999999999 -999999999 out 1.1a; 0 out 1; 999999999 out 2", "act b -1", "act c 0",
                    "act d 999999999 -10 since -999999999 read . x")
        self.check(desk, "text -999999999", ". all\n1 one two\n2")
        self.check(desk, "text -1", ". all\n1 one two\n2")
        self.check(desk, "text 0", ". all\n2")
        self.check(desk, "text 999999998", ". all\n2")
        self.check(desk, "text 999999999", ". x")
        self.check(desk, "text -10 999999999 0", ". x\n1 one two\n2")

    def test_words_of_all_lengths(self):
        desk = said(FIRST, "act a 0 1 read 1 abcdefghijkl_0_9z; 2 swap 1 0 _; 3 swap 1 9z a_a_a; 4 read 1 _")
        self.check(desk, "text 1", ". all\n1 abcdefghijkl 0 9z\n1.1a three\n2")
        self.check(desk, "text 2", ". all\n1 abcdefghijkl 9z\n1.1a three\n2")
        self.check(desk, "text 3", ". all\n1 abcdefghijkl a a a\n1.1a three\n2")
        self.check(desk, "text 4", ". all\n1\n1.1a three\n2")

    def test_places_down_to_eight_labels(self):
        rows = ["act a 0 " + "; ".join(f"{level} in {'.'.join(['1'] * level) or '.'} 1 w" for level in range(1, 9))]
        desk = said(".\n1", *rows)
        lowest = ".".join("1" * 8)
        self.check(desk, "story 8", "; ".join(f"a {level} done" for level in range(7)) + "; a 7 deep")
        self.assertTrue(desk.say("text 7").endswith(f"\n{lowest} w"))
        self.check(desk, f"words {lowest} 7", f"by a 6 {lowest} 0")
        self.check(desk, f"leads {lowest} 7 8", lowest)


def told_desk():
    """A desk with a text that is told otherwise for each of the three days."""
    return said(
        ". a b\n1 c\n2 d\n3",
        "act one 1 2 swap . b x_y; 4 since 3 out 1; 6 anew .; 6 in 2 5 p_q",
        "act two 5 3 read 3 e; 7 swap 9 a a; 7 swap . z a; 7 in . 1 a",
        "act three 8 drop two 0",
    )


class Told(Asked):
    def test_text(self):
        desk = told_desk()
        self.check(desk, "text 0", ". a b\n1 c\n2 d\n3")
        self.check(desk, "text 3", ". a x y\n1 c\n2 d\n3")
        self.check(desk, "text 3 5", ". a x y\n1 c\n2 d\n3 e")
        self.check(desk, "text 5 4", ". a x y\n2 d\n3")
        self.check(desk, "text 5 4 2", ". a x y\n1 c\n2 d\n3")
        self.check(desk, "text 9", ". a x y\n1 d\n2 e\n2.5 p q")
        self.check(desk, "text 9 9 -1", ". a x y\n1 c\n2 d\n2.5 p q\n3 e")
        self.check(desk, "text 9 0", ". a b\n1 c\n2 d\n3")

    def test_story(self):
        desk = told_desk()
        self.check(desk, "story 1", "")
        self.check(desk, "story -5 9 9", "")
        self.check(desk, "story 9 0", "")
        self.check(desk, "story 2", "one 0 done")
        self.check(desk, "story 6", "one 0 done; two 0 done; one 1 done; one 2 done; one 3 done")
        self.check(desk, "story 6 4", "one 0 done; one 1 done; one 2 done; one 3 done")
        self.check(desk, "story 6 4 2", "one 0 done; one 2 done; one 3 done")
        self.check(desk, "story 7", "one 0 done; two 0 done; one 1 done; one 2 done; one 3 done; two 1 place; "
                                    "two 2 words; two 3 there")

    def test_each_reason_in_a_story(self):
        lowest = ".".join("1" * 8)
        first = ". a a b\n" + "\n".join(".".join("1" * level) for level in range(1, 9))
        desk = said(first, f"act a 0 1 swap 2 a b; 1 swap . c b; 1 swap . a b; 1 in . 1 _; 1 in {lowest} 1 _; 1 out .; "
                           "1 out 2; 1 anew 2; 1 read 2 _; 1 in 2 1 _; 1 anew .")
        self.check(desk, "story 1", "a 0 place; a 1 words; a 2 twice; a 3 there; a 4 deep; a 5 whole; a 6 place; "
                                    "a 7 place; a 8 place; a 9 place; a 10 done")
        self.check(desk, "text 1", first)

    def test_leads(self):
        desk = told_desk()
        self.check(desk, "leads . 0 9", ".")
        self.check(desk, "leads 1 0 0", "1")
        self.check(desk, "leads 1 0 9", "gone one 1")
        self.check(desk, "leads 2 0 9", "1")
        self.check(desk, "leads 3 0 9", "2")
        self.check(desk, "leads 3 0 5", "3")
        self.check(desk, "leads 1 0 9 9", "gone one 1")
        self.check(desk, "leads 1 0 9 0", "1")
        self.check(desk, "leads 1 0 9 9 2", "1")
        self.check(desk, "leads 2 0 9 9 2", "2")
        self.check(desk, "leads 2.5 6 9", "2.5")
        self.check(desk, "leads 1 -3 4 5", "gone one 1")

    def test_from(self):
        desk = told_desk()
        self.check(desk, "from . 0 9", ".")
        self.check(desk, "from 1 0 9", "2")
        self.check(desk, "from 2 0 9", "3")
        self.check(desk, "from 2 6 9", "2")
        self.check(desk, "from 2.5 0 9", "new one 3 2.5")
        self.check(desk, "from 2.5 5 6", "new one 3 2.5")
        self.check(desk, "from 2.5 6 9", "2.5")
        self.check(desk, "from 1 0 9 1", "2")
        self.check(desk, "from 1 0 9 0", "1")
        self.check(desk, "from 3 0 9 9 2", "3")

    def test_from_with_the_place_right_behind_the_change(self):
        desk = said(".\n1\n2", "act a 0 1 in . 7 _; 1 in 7 4 _; 2 out 1; 2 anew .; 3 anew 2")
        self.check(desk, "from 2 0 1 1", "2")
        self.check(desk, "from 7 0 1", "new a 0 7")
        self.check(desk, "from 2 0 3", "new a 0 7")
        self.check(desk, "from 2.1 0 3", "new a 1 7.4")
        self.check(desk, "from 2.1 1 3", "7.4")
        self.check(desk, "from 1 0 3", "2")

    def test_words(self):
        desk = told_desk()
        self.check(desk, "words . 0", "first . 0; first . 1")
        self.check(desk, "words 3 0", "")
        self.check(desk, "words . 2", "first . 0; by one 0 . 0; by one 0 . 1")
        self.check(desk, "words . 2 0", "first . 0; first . 1")
        self.check(desk, "words 1 6", "first 2 0")
        self.check(desk, "words 1 6 6 2", "first 1 0")
        self.check(desk, "words 2 6", "by two 0 3 0")
        self.check(desk, "words 2 6 4", "")
        self.check(desk, "words 2 6 6 0", "first 2 0")
        self.check(desk, "words 2.5 6", "by one 3 2.5 0; by one 3 2.5 1")

    def test_far(self):
        desk = told_desk()
        for row, answer in [
            ("far 0 0", "0"), ("far 9 9", "0"), ("far 0 2", "1"), ("far 2 0", "1"), ("far 0 4", "2"), ("far 4 0", "2"),
            ("far -999999999 4", "2"), ("far 2 4", "1"),
        ]:
            self.check(desk, row, answer)
        # Kids 1 and 2 read anew, 3 left out, 2.5 put in, and the words at the top: each day as seen from itself.
        self.check(desk, "text 6", ". a x y\n1 d\n2 e\n2.5 p q")
        self.check(desk, "far 0 6", "5")
        self.check(desk, "far 6 0", "5")

    def test_far_is_told_of_each_day_as_seen_from_itself_for_a_case_begun_on_it(self):
        desk = said(".", "act a 2 1 read . x", "act b 3 0 since 5 in . 1 _", "back c 7 a")
        for row, answer in [
            ("far 0 1", "0"), ("far 1 2", "1"), ("far 2 3", "0"), ("far 4 5", "1"), ("far 0 6", "2"), ("far 6 7", "1"),
            ("far 7 0", "1"), ("far 2 7", "2"),
        ]:
            self.check(desk, row, answer)


class AgainstTheModules(unittest.TestCase):
    def book_and_desk(self, seed):
        drawn = chance_book(seed)
        acts = [(name, day, other, [sayable(deed) for deed in deeds]) for name, day, other, deeds in drawn.acts()]
        book = book_of(drawn.first(), [(name, day, other if other is not None else deeds)
                                       for name, day, other, deeds in acts])
        return book, desk_of(drawn.first(), acts)

    def row(self, head, *parts):
        return " ".join([head] + [str(part) for part in parts])

    def test_text_story_and_words(self):
        for seed in range(80):
            book, desk = self.book_and_desk(seed)
            for days in [(0,), (5,), (14,), (6, 20), (3, 2), (14, 20, 4), (9, 6, -3), (-2, 20, 20)]:
                tree = text_of(book, *days)
                self.assertEqual(desk.say(self.row("text", *days)), shown(tree))
                told = [f"{name} {number} {why or 'done'}" for name, number, why in story(book, *days)]
                self.assertEqual(desk.say(self.row("story", *days)), "; ".join(told))
                for place in places(tree):
                    marks = []
                    for mark in origins(book, place, *days):
                        spot = [place_text(part) if isinstance(part, tuple) else str(part) for part in mark]
                        marks.append(" ".join(spot))
                    self.assertEqual(desk.say(self.row("words", place_text(place), *days)), "; ".join(marks))

    def test_leads_and_from(self):
        heads = {}
        for seed in range(80):
            book, desk = self.book_and_desk(seed)
            for day, later, *rest in [(0, 14), (5, 9), (2, 14, 20), (-2, 14, 20, 5), (4, 4), (3, 12, 4, 12)]:
                seen = rest[0] if rest else later
                begun = rest[1] if len(rest) > 1 else later
                for place in places(text_of(book, day, seen, begun)):
                    told = leads_to(book, place, day, later, *rest)
                    answer = desk.say(self.row("leads", place_text(place), day, later, *rest))
                    heads[told[0]] = True
                    if told[0] == "at":
                        self.assertEqual(answer, place_text(told[1]))
                    else:
                        self.assertEqual(answer, f"gone {told[1]} {told[2]}")
                for place in places(text_of(book, later, seen, begun)):
                    told = comes_from(book, place, day, later, *rest)
                    answer = desk.say(self.row("from", place_text(place), day, later, *rest))
                    heads[told[0]] = True
                    if told[0] == "at":
                        self.assertEqual(answer, place_text(told[1]))
                    else:
                        self.assertEqual(answer, f"new {told[1]} {told[2]} {place_text(told[3])}")
        self.assertEqual(set(heads), {"at", "gone", "new"})

    def test_far(self):
        met = {}
        for seed in range(80):
            book, desk = self.book_and_desk(seed)
            for day, later in [(0, 14), (14, 0), (5, 9), (9, 5), (-2, 6), (7, 7)]:
                answer = desk.say(f"far {day} {later}")
                self.assertEqual(answer, str(distance(text_of(book, day), text_of(book, later))))
                met[answer] = True
        self.assertGreater(len(met), 5)

    def test_rows_are_written_as_the_interface_lists_them(self):
        # The rows of these tests are written by a helper; here are some of them, so that it is seen to write all kinds.
        met = {}
        for seed in range(80):
            for act in chance_book(seed).acts():
                row = act_row(act[:3] + ([sayable(deed) for deed in act[3]],))
                met.update((word, True) for word in row.split(" "))
        for word in ["act", "back", "since", "later", "instead", "drop", "swap", "read", "in", "out", "anew", "_", "."]:
            self.assertIn(word, met)


class Kept(Asked):
    def test_what_is_asked_changes_nothing(self):
        desk = told_desk()
        rows = ["text 9", "story 9", "leads 2 0 9", "from 2 0 9", "words . 9", "far 0 9"]
        answers = [desk.say(row) for row in rows]
        for row in rows + list(reversed(rows)):
            self.assertEqual(desk.say(row), answers[rows.index(row)])

    def test_many_acts(self):
        desk = Desk(".")
        for number in range(60):
            name = "x" + "abcdefghij"[number // 10] + "abcdefghij"[number % 10]
            deeds = "; ".join(f"{number} in . {number * 6 + spot} w" for spot in range(1, 7))
            self.assertEqual(desk.say(f"act {name} {number} {deeds}"), "ok")
        self.assertEqual(desk.say("text 59").count("\n"), 360)
        self.assertEqual(desk.say("far 0 59"), "354")


if __name__ == "__main__":
    unittest.main()
