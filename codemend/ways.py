"""Where a place of one day's text has gone by a later day, and from where one of the later day's text comes."""

from codemend.apart import is_at_or_above
from codemend.changes import Anew, LeaveOut, PutIn
from codemend.errors import NoDay
from codemend.telling import steps, text_behind
from codemend.trees import node_at, node_or_refusal


def leads_to(book, place, day, later, seen=None, begun=None):
    """("at", place) in the later day's text, or ("gone", name, number): the change that left it out."""
    refuse_earlier(day, later)
    taken = steps(book, later, seen, begun)
    node_or_refusal(text_behind(book, [step for step in taken if step.day <= day]), place)
    here = place
    for step in done_behind(taken, day):
        if leaves_out(step.change, here):
            return ("gone", step.name, step.number)
        here = led_on(step, here)
    return ("at", here)


def comes_from(book, place, day, later, seen=None, begun=None):
    """("at", place) in the day's text, or ("new", name, number, place): the change that put it in, and where."""
    refuse_earlier(day, later)
    taken = steps(book, later, seen, begun)
    node_or_refusal(text_behind(book, taken), place)
    here = place
    for step in reversed(done_behind(taken, day)):
        if puts_in(step.change, here):
            return ("new", step.name, step.number, here)
        here = led_back(step, here)
    return ("at", here)


def refuse_earlier(day, later):
    if later < day:
        raise NoDay("the later day is earlier")


def done_behind(taken, day):
    return [step for step in taken if step.day > day and step.why is None]


def leaves_out(change, place):
    return isinstance(change, LeaveOut) and is_at_or_above(change.place, place)


def puts_in(change, place):
    return isinstance(change, PutIn) and is_at_or_above(change.place + (change.node[0],), place)


def led_on(step, place):
    return numbered(step.change, place, step.ahead, step.behind)


def led_back(step, place):
    return numbered(step.change, place, step.behind, step.ahead)


def numbered(change, place, tree, other):
    """A place of the one tree as the other has it, the change between them being done or undone."""
    if not isinstance(change, Anew) or place == change.place or not is_at_or_above(change.place, place):
        return place
    level = len(change.place)
    # Numbering anew keeps the kids in their order: the one at the same spot is the same kid.
    spot = labels_beneath(tree, change.place).index(place[level])
    return change.place + (labels_beneath(other, change.place)[spot],) + place[level + 1:]


def labels_beneath(tree, place):
    return [kid[0] for kid in node_at(tree, place)[2]]
