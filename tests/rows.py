"""Rows for a desk, written of acts as a book has them, and desks that several tests use."""

from codemend.changes import Anew, LeaveOut, PutIn, Read
from codemend.desk import Desk
from codemend.texts import place_text, shown


def words_row(words):
    return "_".join(words) if words else "_"


def change_row(change):
    place = place_text(change.place)
    if isinstance(change, Anew):
        return f"anew {place}"
    if isinstance(change, LeaveOut):
        return f"out {place}"
    if isinstance(change, Read):
        return f"read {place} {words_row(change.words)}"
    if isinstance(change, PutIn):
        return f"in {place} {change.node[0]} {words_row(change.node[1])}"
    return f"swap {place} {words_row(change.old)} {words_row(change.new)}"


def deed_row(deed):
    if deed[0] == "change":
        since = "" if deed[3] is None else f"since {deed[3]} "
        return f"{deed[1]} {since}{change_row(deed[2])}"
    if deed[0] == "instead":
        return f"instead {deed[1]} {deed[2]} {change_row(deed[3])}"
    return " ".join(str(part) for part in deed)


def act_row(act):
    name, day, other, deeds = act
    if other is not None:
        return f"back {name} {day} {other}"
    return f"act {name} {day}" + (" " if deeds else "") + "; ".join(deed_row(deed) for deed in deeds)


def without_kids(change):
    return PutIn(change.place, change.node[:2] + ((),)) if isinstance(change, PutIn) else change


def sayable(deed):
    """The deed, or the nearest one that a row can tell: no kids of a node put in, no number below 0."""
    if deed[0] == "change":
        return deed[:2] + (without_kids(deed[2]),) + deed[3:]
    if deed[0] == "instead":
        return ("instead", deed[1], max(deed[2], 0), without_kids(deed[3]))
    return (deed[0], deed[1], max(deed[2], 0)) + deed[3:]


def desk_of(tree, acts):
    """A desk that was told the acts, each with the answer ok."""
    desk = Desk(shown(tree))
    for act in acts:
        answer = desk.say(act_row(act))
        if answer != "ok":
            raise AssertionError(answer)
    return desk


def said(text, *rows):
    """A desk that was told the rows, each with the answer ok."""
    desk = Desk(text)
    for row in rows:
        answer = desk.say(row)
        if answer != "ok":
            raise AssertionError(answer)
    return desk
