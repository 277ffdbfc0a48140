"""The desk: what it refuses, in which order, and that nothing is changed by it."""

import unittest

from codemend.desk import Desk
from codemend.errors import MendError, NoAct, NoDay, NoName, NoPlace, NoRow, Twice
from rows import said
from samples import no_texts

FIRST = ". all\n1 one two\n1.1a three\n2"
EIGHT = "1.2.3.4.5.6.7.8"
NINE = EIGHT + ".9"

WRONG_DAYS = [
    "", "-", "00", "01", "007", "-0", "-00", "-01", "--1", "+1", "+0", "1000000000", "-1000000000", "0000000001", "1-",
    "1a", "a", "x", ".", "_", "1.0", "1_0", "1,0", "1;", "\t1", "1\n", "\n", "1\u00a0", "0x1", "1e1", "\u0661", "\u00b2",
    "-\u0661", "\uff11", "\u2212" "1", "None", "today",
]
WRONG_NUMBERS = WRONG_DAYS + ["-1", "-10", "-999999999"]
WRONG_PLACES = [
    "", "..", "1.", ".1", "1..2", "0", "01", "1.01", "a", "1A", "1abcd", "1000000000", "1.0", NINE, EIGHT + ".1.1", "1\n",
    "\n", "-1", "1_2", "1,2", "_", "()", "1;", "\u0661", "1\u00e4",
]
WRONG_LABELS = [".", "", "0", "01", "a", "1A", "1abcd", "1000000000", "1.1", "1a1", "-1", "_", "1\n", "1;", "\u0661"]
WRONG_WORDS = [
    "", "__", "___", "a_", "_a", "a__b", "_a_", "A", "a_B", "Ab", "abcdefghijklm", "a_abcdefghijklm", "1234567890123",
    "a.b", ".", "a-b", "a,b", "a;", ";", "a\n", "\n", "a\tb", "\u00e4", "\u0661",
]

GOOD_CHANGES = ["swap 1 one x", "read 1 x", "in . 3 x", "out 1", "anew ."]
GOOD_DEEDS = ["5 out 1", "5 since 3 out 1", "later old 0 7", "instead old 0 out 1", "drop old 0"]
GOOD_ASKED = [
    "text 5", "text 5 5", "text 5 5 5", "story 5", "story 5 5", "story 5 5 5", "leads 1 5 6", "leads 1 5 6 6",
    "leads 1 5 6 6 6", "from 1 5 6", "from 1 5 6 6", "from 1 5 6 6 6", "words 1 5", "words 1 5 5", "words 1 5 5 5",
    "far 5 6",
]
# The most words that a row of each head has, but for an act, which ends with its last deed.
FULL_ROWS = ["text 5 5 5", "story 5 5 5", "leads 1 5 6 6 6", "from 1 5 6 6 6", "words 1 5 5 5", "far 5 6", "back a 9 old"]


def desk():
    return said(FIRST, "act old 2 4 swap 1 two x_y; 8 out 2", "act older 3 4 read . z")


TOLD = [
    "text 0", "text 2", "text 4", "text 9", "text 9 2", "story 9", "leads 1 0 9", "leads 2 0 9", "from 1 0 9", "words 1 9",
    "words . 9", "far 0 9",
]


class Refused(unittest.TestCase):
    def setUp(self):
        self.desk = desk()
        self.told = [self.desk.say(row) for row in TOLD]

    def assert_as_before(self):
        self.assertEqual([self.desk.say(row) for row in TOLD], self.told)

    def assert_refused(self, row, error, **fields):
        with self.subTest(row=row):
            with self.assertRaises(error) as caught:
                self.desk.say(row)
            self.assertIs(type(caught.exception), error)
            self.assertIsInstance(caught.exception, MendError)
            for name, value in fields.items():
                self.assertEqual(getattr(caught.exception, name), value)
            self.assert_as_before()

    def tearDown(self):
        # Behind all that was refused the desk takes a good act, also of a name that was refused.
        self.assertEqual(self.desk.say("act a 3 4 in . 3 _; drop old 1; drop older 0"), "ok")
        self.assertEqual(self.desk.say("back b 4 old"), "ok")
        self.assertEqual(self.desk.say("text 9"), FIRST + "\n3")
        self.assertEqual(self.desk.say("story 9"), "a 0 done")


class NoRows(Refused):
    def test_what_is_no_text(self):
        for thing in no_texts():
            with self.assertRaises(NoRow) as caught:
                self.desk.say(thing)
            self.assertIsInstance(caught.exception, MendError)
            self.assert_as_before()

    def test_no_signs_and_other_first_words(self):
        for row in [
            "", " ", "  ", "\n", "x", "Act a 5", "TEXT 5", "acts a 5", "ac a 5", "texts 5", "tex 5", "text\t5", "text\n5", "5",
            "5 out 1", "drop old 0", "swap 1 one x", "in . 3 x", "ok", ".", "_", "; ", ";", "act;", "Back a 9 old", "lead 1 5 6",
            "to 1 5 6", "word 1 5", "fars 5 6", "near 5 6", "quit", "None",
        ]:
            self.assert_refused(row, NoRow)

    def test_too_few_words(self):
        for row in [
            "act", "act a", "back", "back a", "back a 9", "text", "story", "leads", "leads 1", "leads 1 5", "from", "from 1",
            "from 1 5", "words", "words 1", "far", "far 5",
        ]:
            self.assert_refused(row, NoRow)

    def test_too_many_words(self):
        for row in FULL_ROWS:
            self.assertEqual(type(desk().say(row)), str)
            for more in ["5", "x", ".", "1 1", "_"]:
                self.assert_refused(f"{row} {more}", NoRow)
        for row in ["text 5 5 5 5", "far 5 6 6", "far 5 6 6 6", "back a 9 old older", "back a 9 old 5 out 1"]:
            self.assert_refused(row, NoRow)

    def test_a_blank_too_many_ahead_and_at_the_end(self):
        for row in GOOD_ASKED + ["act a 9", "act a 9 5 out 1", "back a 9 old"]:
            self.assertEqual(type(desk().say(row)), str)
            self.assert_refused(" " + row, NoRow)
            self.assert_refused("  " + row, NoRow)
            self.assert_refused(row + " ", NoRow)
            self.assert_refused(row + "  ", NoRow)

    def test_a_blank_too_many_amid(self):
        for row in GOOD_ASKED + ["act a 9 5 out 1", "act a 9 5 since 4 swap 1 one x; drop old 0"]:
            for spot, sign in enumerate(row):
                if sign == " ":
                    self.assert_refused(row[:spot] + " " + row[spot:], NoRow)
        # Behind the blank too many there is a word too many too, wherever it stands.
        for row in ["back  a 9 old", "back a  9 old", "back a 9  old", "act a  9", "act  a 9"]:
            self.assert_refused(row, NoRow)

    def test_other_signs_in_the_stead_of_a_blank(self):
        for row in GOOD_ASKED + ["act a 9", "act a 9 5 out 1"]:
            for sign in ["\t", "\n", "\u00a0", ",", "_"]:
                self.assert_refused(row.replace(" ", sign, 1), NoRow)
                self.assert_refused(sign.join(row.rsplit(" ", 1)), NoRow)
        for row in GOOD_ASKED + ["act a 9", "act a 9 5 out 1"]:
            for sign in ["\n", "\t", "\r", ";", "."]:
                self.assert_refused(row + sign, NoRow)

    def test_days(self):
        for day in WRONG_DAYS:
            for row in [
                "text {}", "text {} 5", "text 5 {}", "text 5 5 {}", "text 5 {} 5", "story {}", "story 5 {}", "story 5 5 {}",
                "leads 1 {} 6", "leads 1 5 {}", "leads 1 5 6 {}", "leads 1 5 6 6 {}", "from 1 {} 6", "from 1 5 {}",
                "from 1 5 6 {}", "from 1 5 6 6 {}", "words 1 {}", "words 1 5 {}", "words 1 5 5 {}", "far {} 6", "far 5 {}",
                "act a {}", "act a {} 5 out 1", "act a 9 {} out 1", "act a 9 {} since 3 out 1", "act a 9 5 since {} out 1",
                "act a 9 later old 0 {}", "act a 9 drop old 0; {} out 1", "back a {} old",
            ]:
                self.assert_refused(row.replace("{}", day), NoRow)

    def test_numbers_of_deeds(self):
        for number in WRONG_NUMBERS:
            for row in ["later old {} 7", "instead old {} out 1", "drop old {}", "5 out 1; drop old {}"]:
                self.assert_refused("act a 9 " + row.replace("{}", number), NoRow)

    def test_places(self):
        for place in WRONG_PLACES:
            for row in [
                "leads {} 5 6", "leads {} 5 6 6 6", "from {} 5 6", "from {} 5 6 6", "words {} 5", "words {} 5 5 5",
                "act a 9 5 swap {} one x", "act a 9 5 read {} x", "act a 9 5 in {} 3 x", "act a 9 5 out {}",
                "act a 9 5 anew {}", "act a 9 5 since 2 out {}", "act a 9 instead old 0 out {}",
                "act a 9 drop old 0; 5 anew {}",
            ]:
                self.assert_refused(row.replace("{}", place), NoRow)

    def test_labels(self):
        for label in WRONG_LABELS:
            for row in ["5 in . {} x", "5 in 1.1a {} _", "5 since 3 in . {} x", "instead old 0 in . {} x"]:
                self.assert_refused("act a 9 " + row.replace("{}", label), NoRow)

    def test_words(self):
        for words in WRONG_WORDS:
            for row in [
                "5 swap 1 {} x", "5 swap 1 one {}", "5 read 1 {}", "5 read . {}", "5 in . 3 {}", "5 since 3 read 1 {}",
                "instead old 0 read 1 {}", "instead old 0 swap 1 {} x",
            ]:
                self.assert_refused("act a 9 " + row.replace("{}", words), NoRow)

    def test_swap_with_no_old_words(self):
        for row in ["5 swap 1 _ x", "5 swap 2 _ x", "5 swap 1 _ _", "5 since 3 swap 1 _ x", "instead old 0 swap 1 _ x"]:
            self.assert_refused("act a 9 " + row, NoRow)

    def test_changes(self):
        changes = [
            "", "x", "put . 3 x", "Swap 1 one x", "swaps 1 one x", "reads 1 x", "In . 3 x", "putin . 3 x", "leave 1", "outs 1",
            "anews .", "since 3", "out", "anew", "read", "swap", "in", "read 1", "swap 1", "swap 1 one", "in .", "in . 3",
            "out 1 2", "anew . .", "read 1 x x", "swap 1 one x x", "in . 3 x x", "in . 3 x 4", "out 1 since 3",
            "since 3 since 3 out 1", "drop old 0", "later old 0 7", "5 out 1",
        ]
        for change in changes:
            for ahead in ["5 ", "5 since 3 ", "instead old 0 "]:
                self.assert_refused(f"act a 9 {ahead}{change}", NoRow)

    def test_changes_with_a_blank_too_many_at_the_end(self):
        for change in GOOD_CHANGES:
            self.assertEqual(desk().say(f"act a 9 5 {change}"), "ok")
            for more in [" ", " x", " 1", " _"]:
                self.assert_refused(f"act a 9 5 {change}{more}", NoRow)
            for words in range(1, change.count(" ") + 1):
                self.assert_refused("act a 9 5 " + change.rsplit(" ", words)[0], NoRow)

    def test_deeds(self):
        deeds = [
            "x", "change 5 out 1", "Later old 0 7", "Drop old 0", "drops old 0", "put old 0", "back old", "out 1", "since 3 out 1",
            "5", "5 since", "5 since 3", "5 Since 3 out 1", "5 3 out 1", "later", "later old", "later old 0", "later old 0 7 8",
            "later old 0 out 1", "instead", "instead old", "instead old 0", "instead old 0 5 out 1", "instead old out 1",
            "instead old 0 since 3 out 1", "drop", "drop old", "drop old 0 1", "drop old 0 7", "drop old older", "later 0 old 7",
            "instead 5 old out 1", "since", "act b 9", "text 5",
        ]
        for deed in deeds:
            self.assert_refused(f"act a 9 {deed}", NoRow)
            self.assert_refused(f"act a 9 5 out 1; {deed}", NoRow)
            self.assert_refused(f"act a 9 {deed}; 5 out 1", NoRow)

    def test_deeds_parted_otherwise(self):
        for one in GOOD_DEEDS:
            self.assertEqual(desk().say(f"act a 9 {one}; {one}"), "ok")
            for between in [";", " ;", " ; ", ";  ", "; ; ", ";; ", ";;", " ", "  ", "\n", ", ", ",", ".", ": ", ";\n", ";\t", ""]:
                self.assert_refused(f"act a 9 {one}{between}{one}", NoRow)
            for end in [";", "; ", " ;", " ; ", ";;", ";  ", ".", "\n"]:
                self.assert_refused(f"act a 9 {one}{end}", NoRow)
            for begin in ["; ", ";", " ; ", " "]:
                self.assert_refused(f"act a 9 {begin}{one}", NoRow)
            self.assert_refused(f"act a 9; {one}", NoRow)
        for row in ["act a 9;", "act a 9 ;", "act a 9; ", "act a 9 ; ", "act a 9 "]:
            self.assert_refused(row, NoRow)

    def test_a_name_in_a_deed_does_not_reach_beyond_the_sign_that_parts_deeds(self):
        for deed in ["drop old; 0", "drop ; 0", "later old; 0 7", "instead old; 0 out 1", "5 out 1; drop old; 0"]:
            self.assert_refused(f"act a 9 {deed}", NoRow)

    def test_no_deed_of_a_refused_act_is_taken(self):
        self.assert_refused("act a 9 0 out 1; 0 out 2; 0 read . x; 0 out 01", NoRow)

    def test_ahead_of_all(self):
        for row in [
            "act A 01", "act A 9 5 out 0", "act old 9 5 out 0", "act a 0 5 out 0", "act a 9 drop none 0; 5 out 0",
            "act a 9 drop none -1", "act  00", "back A 01 old", "back old 9 old x", "back a 0 none x", "back a -0 none",
            "leads 7 9 5 -0", "leads 7 9", "leads 0 9 5", "from 7 9 5 5 x", "from 7 9 5 5 5 5", "words 7 5 x", "words 7",
            "act old 0 later none 0 5; in . 1 x", "act  1 drop none 0; 5 read 1 A",
        ]:
            self.assert_refused(row, NoRow)


class AsTheStagesTell(Refused):
    def test_names(self):
        for name in ["", "A", "abcdefghi", "a1", "1", "a_b", "a;", "a\n", "\u00e4", "-", ".", "a.b"]:
            self.assert_refused(f"act {name} 9", NoName)
            self.assert_refused(f"act {name} 9 5 out 1", NoName)
            self.assert_refused(f"back {name} 9 old", NoName)
            # Ahead of a day that is too early, and of an act that is none.
            self.assert_refused(f"act {name} 0 drop none 0", NoName)
            self.assert_refused(f"back {name} 0 none", NoName)

    def test_a_word_without_signs_for_a_name(self):
        self.assert_refused("act  9", NoName)
        self.assert_refused("back  9 old", NoName)
        self.assert_refused("back a 9 ", NoAct, name="")
        self.assert_refused("act a 9 drop  0", NoAct, name="")
        self.assert_refused("act a 9 later  0 5", NoAct, name="")
        self.assert_refused("act a 9 instead  0 out 1", NoAct, name="")

    def test_twice(self):
        for name in ["old", "older"]:
            self.assert_refused(f"act {name} 9", Twice)
            self.assert_refused(f"back {name} 9 old", Twice)
            self.assert_refused(f"act {name} 0 drop none 0", Twice)
            self.assert_refused(f"back {name} 0 none", Twice)

    def test_days(self):
        for day in ["2", "0", "-1", "-999999999"]:
            self.assert_refused(f"act a {day}", NoDay)
            self.assert_refused(f"act a {day} 9 out 1", NoDay)
            self.assert_refused(f"back a {day} old", NoDay)
            self.assert_refused(f"act a {day} drop none 0", NoDay)
            self.assert_refused(f"back a {day} none", NoDay)

    def test_acts(self):
        for name in ["none", "a", "ol", "OLD", "0", "_", ".", "old\n"]:
            self.assert_refused(f"back a 9 {name}", NoAct, name=name)
            self.assert_refused(f"act a 9 drop {name} 0", NoAct, name=name)
            self.assert_refused(f"act a 9 later {name} 0 7", NoAct, name=name)
            self.assert_refused(f"act a 9 instead {name} 0 out 1", NoAct, name=name)
            self.assert_refused(f"act a 9 0 out 1; drop old 0; drop {name} 0; drop nil 0", NoAct, name=name)

    def test_places(self):
        for ask in ["leads {} 0 9", "from {} 0 9", "words {} 9", "words {} 0", "leads {} 0 9 9 9", "from {} 5 5 2"]:
            for place in ["3", "1.1", "1.1a.1", "2.1", EIGHT]:
                self.assert_refused(ask.replace("{}", place), NoPlace, place=tuple(place.split(".")))
        self.assert_refused("leads 2 8 9", NoPlace, place=("2",))
        self.assert_refused("from 2 0 9", NoPlace, place=("2",))
        self.assert_refused("words 2 9", NoPlace, place=("2",))
        self.assertEqual(self.desk.say("words 2 9 0"), "")

    def test_a_later_day_that_is_earlier(self):
        for row in ["leads 1 5 4", "from 1 5 4", "leads 1 0 -1", "from 1 9 -9 9 9", "leads . 999999999 0"]:
            self.assert_refused(row, NoDay)
            # Ahead of a place that is none there.
            self.assert_refused(row.replace("1", "7.7", 1), NoDay)
        self.assertEqual(self.desk.say("far 5 4"), "0")
        self.assertEqual(self.desk.say("far 4 3"), "2")


class BehindRefusals(unittest.TestCase):
    def test_the_first_act_of_a_desk(self):
        for row, error in [
            ("act A 5", NoName), ("act a 05", NoRow), ("back a 5 a", NoAct), ("act a 5 drop a 0", NoAct), ("act a 5 0 out", NoRow),
        ]:
            other = Desk(FIRST)
            with self.assertRaises(error):
                other.say(row)
            # Neither its name nor its day was taken.
            self.assertEqual(other.say("act a 4 1 out 1"), "ok")
            self.assertEqual(other.say("text 4"), ". all\n2")
            self.assertEqual(other.say("story 4"), "a 0 done")


if __name__ == "__main__":
    unittest.main()
