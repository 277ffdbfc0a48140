"""A desk: a book that is told rows of text, and answers each."""

from codemend.acts import Book
from codemend.errors import NoRow
from codemend.fewest import distance
from codemend.origins import origins
from codemend.telling import story, text_of
from codemend.texts import place_text, read, shown
from codemend.ways import comes_from, leads_to
from codemend.words import day_in, days_of, deeds_of, name_in, parts_of, place_in, told_row, told_rows


def say_act(book, words):
    parts = parts_of(words[:2], (name_in, day_in))
    book.act(parts[0], parts[1], deeds_of(words[2:]))
    return "ok"


def say_back(book, words):
    parts = parts_of(words, (name_in, day_in, name_in))
    book.back(parts[0], parts[1], parts[2])
    return "ok"


def say_text(book, words):
    days = days_of(words, 1)
    return shown(text_of(book, days[0], days[1], days[2]))


def say_story(book, words):
    days = days_of(words, 1)
    told = story(book, days[0], days[1], days[2])
    return told_rows([(name, number, "done" if why is None else why) for name, number, why in told])


def say_leads(book, words):
    place = parts_of(words[:1], (place_in,))[0]
    days = days_of(words[1:], 2)
    return way_text(leads_to(book, place, days[0], days[1], days[2], days[3]))


def say_from(book, words):
    place = parts_of(words[:1], (place_in,))[0]
    days = days_of(words[1:], 2)
    return way_text(comes_from(book, place, days[0], days[1], days[2], days[3]))


def way_text(told):
    return place_text(told[1]) if told[0] == "at" else told_row(told)


def say_words(book, words):
    place = parts_of(words[:1], (place_in,))[0]
    days = days_of(words[1:], 1)
    return told_rows(origins(book, place, days[0], days[1], days[2]))


def say_far(book, words):
    days = parts_of(words, (day_in, day_in))
    return str(distance(text_of(book, days[0]), text_of(book, days[1])))


ANSWERS = {
    "act": say_act, "back": say_back, "text": say_text, "story": say_story, "leads": say_leads, "from": say_from,
    "words": say_words, "far": say_far,
}


class Desk:
    """A book with the first tree of which the text was written."""

    def __init__(self, text):
        self.book = Book(read(text))

    def say(self, row):
        """The answer to a row; what is none is refused with NoRow ahead of all."""
        if not isinstance(row, str):
            raise NoRow("what is said is no text")
        words = row.split(" ")
        if words[0] not in ANSWERS:
            raise NoRow("no such row")
        return ANSWERS[words[0]](self.book, words[1:])
