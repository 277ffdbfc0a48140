"""A book led on by hand: a second reckoning of all that is told of one, by nodes that stay the same objects."""

from codemend.changes import LeaveOut, PutIn, Read, Swap


def rank(label):
    figures = label.rstrip("abcdefghijklmnopqrstuvwxyz")
    return (int(figures), label[len(figures):])


class Spot:
    """A node that stays the same object wherever its place goes; it knows which change brought it, and where to."""

    def __init__(self, node, place, by):
        self.label = node[0]
        self.words = list(zip(node[1], marks(node[1], place, by)))
        self.kids = [Spot(kid, place + (kid[0],), by) for kid in node[2]]
        self.came = None if by is None else ("new",) + by + (place,)

    def at(self, place):
        spot = self
        for label in place:
            spot = next((kid for kid in spot.kids if kid.label == label), None)
            if spot is None:
                return None
        return spot

    def all_from(self, place):
        """The node and those beneath it, each with its place."""
        told = [(place, self)]
        for kid in self.kids:
            told += kid.all_from(place + (kid.label,))
        return told

    def node(self):
        return (self.label, tuple(word for word, _ in self.words), tuple(kid.node() for kid in self.kids))


def marks(words, place, by):
    head = ("first",) if by is None else ("by",) + by
    return [head + (place, spot) for spot in range(len(words))]


def lives(acts, spot, seen):
    if acts[spot][1] > seen:
        return False
    return not any(acts[behind][2] == acts[spot][0] and lives(acts, behind, seen)
                   for behind in range(spot + 1, len(acts)))


def counted(book, seen):
    """The changes that count, each as [day, act's spot, number, name, change, since], in their order."""
    acts = book.acts()
    told = []
    for spot, (name, made, _, deeds) in enumerate(acts):
        if lives(acts, spot, seen):
            for number, deed in enumerate(deeds):
                if deed[0] == "change":
                    told.append([deed[1], spot, number, name, deed[2], deed[3]])
                for entry in [entry for entry in told if (entry[3], entry[2]) == deed[1:3] and entry[0] > made]:
                    if deed[0] == "drop":
                        told.remove(entry)
                    else:
                        entry[0 if deed[0] == "later" else 4] = deed[3]
    return sorted(told, key=lambda entry: entry[:3])


class Hand:
    """A first tree, led on from day to day as seen from a day and for a case."""

    def __init__(self, book, seen, begun):
        self.top = Spot(book.first(), (), None)
        self.waiting = [entry for entry in counted(book, seen) if entry[5] is None or entry[5] <= begun]
        self.gone = {}
        self.story = []
        self.done = []

    def go_on(self, day):
        while self.waiting and self.waiting[0][0] <= day:
            _, _, number, name, change, _ = self.waiting.pop(0)
            why = self.take(change, (name, number))
            self.story.append((name, number, why))
            if why is None:
                self.done.append(change)
        return self

    def spots(self):
        return self.top.all_from(())

    def take(self, change, by):
        spot = self.top.at(change.place)
        if isinstance(change, LeaveOut) and change.place == ():
            return "whole"
        if spot is None:
            return "place"
        if isinstance(change, Swap):
            return swap(spot, change, by)
        if isinstance(change, PutIn):
            return put_in(self.top, spot, change, by)
        if isinstance(change, Read):
            spot.words = list(zip(change.words, marks(change.words, change.place, by)))
        elif isinstance(change, LeaveOut):
            self.top.at(change.place[:-1]).kids.remove(spot)
            for _, lower in spot.all_from(change.place):
                self.gone[lower] = ("gone",) + by
        else:
            for number, kid in enumerate(spot.kids, start=1):
                kid.label = str(number)
        return None


def swap(spot, change, by):
    # Looked for in one text, each word between two signs that no word has.
    line = "".join(f"<{word}>" for word, _ in spot.words)
    old = "".join(f"<{word}>" for word in change.old)
    begins = [begin for begin in range(len(line)) if line.startswith(old, begin)]
    if len(begins) != 1:
        return "twice" if begins else "words"
    begin = line[:begins[0]].count("<")
    spot.words[begin:begin + len(change.old)] = zip(change.new, marks(change.new, change.place, by))
    return None


def put_in(top, spot, change, by):
    if change.node[0] in [kid.label for kid in spot.kids]:
        return "there"
    kid = Spot(change.node, change.place + (change.node[0],), by)
    before = spot.kids
    spot.kids = sorted(before + [kid], key=lambda entry: rank(entry.label))
    if max(len(place) for place, _ in top.all_from(())) > 8:
        spot.kids = before
        return "deep"
    return None
