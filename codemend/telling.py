"""The text of a day, seen from a day, for a case begun on a day, and what became of the changes on the way to it."""

from codemend.counting import what_counts


class Step:
    """A change in its turn: the trees ahead of it and behind it, and why it was passed over, or None."""

    def __init__(self, counted, ahead):
        self.day = counted[0]
        self.name = counted[1]
        self.number = counted[2]
        self.change = counted[3]
        self.ahead = ahead
        self.why = self.change.reason(ahead)
        self.behind = self.change.done(ahead) if self.why is None else ahead


def text_of(book, day, seen=None, begun=None):
    """The tree of a day; seen from the day itself, and for a case begun on it, where these are left out."""
    return text_behind(book, steps(book, day, seen, begun))


def story(book, day, seen=None, begun=None):
    """What became of the changes in force on a day, in their order: tuples (name, number, reason)."""
    return [(step.name, step.number, step.why) for step in steps(book, day, seen, begun)]


def steps(book, day, seen, begun):
    """The changes in force on a day, each in its turn; the day itself stands for what is None."""
    taken = []
    tree = book.first()
    for counted in in_force(book, day, day_or(seen, day), day_or(begun, day)):
        step = Step(counted, tree)
        taken.append(step)
        tree = step.behind
    return taken


def text_behind(book, taken):
    """The tree behind the steps taken from the first tree on."""
    return taken[-1].behind if len(taken) > 0 else book.first()


def in_force(book, day, seen, begun):
    return [counted for counted in what_counts(book, seen) if counted[0] <= day and is_for(counted[4], begun)]


def is_for(since, begun):
    return since is None or since <= begun


def day_or(day, other):
    return other if day is None else day
