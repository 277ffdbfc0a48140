"""From where each word of a day's text comes."""

from codemend.changes import PutIn, Read, Swap, spots
from codemend.telling import steps
from codemend.trees import node_at, node_or_refusal, with_kid, with_words


def origins(book, place, day, seen=None, begun=None):
    """For each word at the place a tuple ("first", place, i) or ("by", name, number, place, i)."""
    marks = marked(book.first(), (), ("first",))
    for step in steps(book, day, seen, begun):
        if step.why is None:
            marks = carried_on(marks, step)
    return list(node_or_refusal(marks, place)[1])


def marked(node, place, source):
    """The node with the words' origins in the stead of its words."""
    kids = [marked(kid, place + (kid[0],), source) for kid in node[2]]
    return (node[0], marks_of(node[1], place, source), tuple(kids))


def marks_of(words, place, source):
    return tuple([source + (place, i) for i in range(len(words))])


def carried_on(marks, step):
    """The marks behind a step that was done, of those ahead of it."""
    change = step.change
    source = ("by", step.name, step.number)
    if isinstance(change, Read):
        return with_words(marks, change.place, marks_of(change.words, change.place, source))
    if isinstance(change, Swap):
        return with_words(marks, change.place, swapped(marks, step, marks_of(change.new, change.place, source)))
    if isinstance(change, PutIn):
        place = change.place + (change.node[0],)
        return with_kid(marks, change.place, marked(change.node, place, source))
    # What goes or is numbered anew takes its marks along, as it takes its words.
    return change.done(marks)


def swapped(marks, step, new):
    # The old words are looked for among the words themselves, since marks tell nothing of them.
    change = step.change
    begin = spots(node_at(step.ahead, change.place)[1], change.old)[0]
    here = node_at(marks, change.place)[1]
    return here[:begin] + new + here[begin + len(change.old):]
