"""The words of a row of the desk, read and written: days, numbers, places, words of a text, changes and deeds."""

from codemend.changes import Anew, LeaveOut, PutIn, Read, Swap
from codemend.errors import NoPlace, NoRow
from codemend.labels import is_label, is_label_number
from codemend.texts import place_text, read_place
from codemend.trees import are_words


def parts_of(words, readers):
    """What each reader makes of its word; as many words are to be there as readers."""
    if len(words) != len(readers):
        raise NoRow("too few words or too many")
    return [reader(word) for reader, word in zip(readers, words)]


def name_in(word):
    # Any word stands for a name here: what is none is for the book to refuse.
    return word


def number_in(word):
    """The number of a deed."""
    # But for 0 it is written as the number of a label is.
    if word != "0" and not is_label_number(word):
        raise NoRow("not a number as it is written")
    return int(word)


def day_in(word):
    """A day, with a - ahead of it below 0."""
    if not word.startswith("-"):
        return number_in(word)
    if not is_label_number(word[1:]):
        raise NoRow("not a day below 0 as it is written")
    return -int(word[1:])


def days_of(words, needed):
    """So many days, and the two from which it is seen and on which the case began: None where left out."""
    if not needed <= len(words) <= needed + 2:
        raise NoRow("too few days or too many")
    return [day_in(word) for word in words] + [None] * (needed + 2 - len(words))


def place_in(word):
    """A place."""
    try:
        return read_place(word)
    except NoPlace:
        raise NoRow("not a place as it is written") from None


def label_in(word):
    """A label."""
    if not is_label(word):
        raise NoRow("not a label")
    return word


def words_in(word):
    """Words of a text, perhaps none."""
    words = () if word == "_" else tuple(word.split("_"))
    if not are_words(words):
        raise NoRow("not words of a text as they are written")
    return words


def some_words_in(word):
    """Words of a text, at least one."""
    words = words_in(word)
    if words == ():
        raise NoRow("no words where there is to be one at least")
    return words


def swap_of(words):
    parts = parts_of(words, (place_in, some_words_in, words_in))
    return Swap(parts[0], parts[1], parts[2])


def read_of(words):
    parts = parts_of(words, (place_in, words_in))
    return Read(parts[0], parts[1])


def put_in_of(words):
    parts = parts_of(words, (place_in, label_in, words_in))
    return PutIn(parts[0], (parts[1], parts[2], ()))


def leave_out_of(words):
    return LeaveOut(parts_of(words, (place_in,))[0])


def anew_of(words):
    return Anew(parts_of(words, (place_in,))[0])


CHANGES = {"swap": swap_of, "read": read_of, "in": put_in_of, "out": leave_out_of, "anew": anew_of}


def change_of(words):
    """A change."""
    if len(words) == 0 or words[0] not in CHANGES:
        raise NoRow("no such change")
    return CHANGES[words[0]](words[1:])


def later_of(words):
    parts = parts_of(words, (name_in, number_in, day_in))
    return ("later", parts[0], parts[1], parts[2])


def instead_of(words):
    parts = parts_of(words[:2], (name_in, number_in))
    return ("instead", parts[0], parts[1], change_of(words[2:]))


def drop_of(words):
    parts = parts_of(words, (name_in, number_in))
    return ("drop", parts[0], parts[1])


DEEDS = {"later": later_of, "instead": instead_of, "drop": drop_of}


def deed_of(words):
    """A deed: one that begins with its own word, or a change with its day."""
    if words[0] in DEEDS:
        return DEEDS[words[0]](words[1:])
    day = day_in(words[0])
    if words[1:2] == ["since"]:
        since = parts_of(words[2:3], (day_in,))[0]
        return ("change", day, change_of(words[3:]), since)
    return ("change", day, change_of(words[1:]), None)


def deeds_of(words):
    """The deeds of an act, perhaps none."""
    if len(words) == 0:
        return []
    return [deed_of(text.split(" ")) for text in " ".join(words).split("; ")]


def told_row(parts):
    """Names, numbers, places and other texts as the words of a row."""
    return " ".join([place_text(part) if isinstance(part, tuple) else str(part) for part in parts])


def told_rows(entries):
    """Several of these, parted as deeds are."""
    return "; ".join([told_row(parts) for parts in entries])
