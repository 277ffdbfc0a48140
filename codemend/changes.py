"""The changes of a tree: each tells whether it fits one, and the tree that comes of it."""

from codemend.errors import NoFit
from codemend.trees import MOST_DEEP, deep, kid_with, node_at, with_kid, with_node, with_words, without


class Change:
    """Any change: the base of the five classes below, and nothing by itself."""


class Swap(Change):
    """New words in the place of old ones that stand there just once."""

    def __init__(self, place, old, new):
        self.place = place
        self.old = old
        self.new = new

    def reason(self, tree):
        """None where the change fits the tree, else why it does not."""
        if node_at(tree, self.place) is None:
            return "place"
        begins = spots(node_at(tree, self.place)[1], self.old)
        if len(begins) == 0:
            return "words"
        if len(begins) > 1:
            return "twice"
        return None

    def done(self, tree):
        """The tree with the new words in the place of the old ones."""
        refuse_unfit(self, tree)
        words = node_at(tree, self.place)[1]
        begin = spots(words, self.old)[0]
        end = begin + len(self.old)
        return with_words(tree, self.place, words[:begin] + self.new + words[end:])


class Read(Change):
    """Other words at a place, whatever was there."""

    def __init__(self, place, words):
        self.place = place
        self.words = words

    def reason(self, tree):
        """None where the change fits the tree, else why it does not."""
        return place_reason(tree, self.place)

    def done(self, tree):
        """The tree with these words at the place."""
        refuse_unfit(self, tree)
        return with_words(tree, self.place, self.words)


class PutIn(Change):
    """A node that comes in beneath a place."""

    def __init__(self, place, node):
        self.place = place
        self.node = node

    def reason(self, tree):
        """None where the change fits the tree, else why it does not."""
        above = node_at(tree, self.place)
        if above is None:
            return "place"
        if kid_with(above, self.node[0]) is not None:
            return "there"
        if deep_with(tree, self.place, self.node) > MOST_DEEP:
            return "deep"
        return None

    def done(self, tree):
        """The tree with the node beneath the place."""
        refuse_unfit(self, tree)
        return with_kid(tree, self.place, self.node)


class LeaveOut(Change):
    """A place that goes, with all beneath it."""

    def __init__(self, place):
        self.place = place

    def reason(self, tree):
        """None where the change fits the tree, else why it does not."""
        if self.place == ():
            return "whole"
        return place_reason(tree, self.place)

    def done(self, tree):
        """The tree without the place."""
        refuse_unfit(self, tree)
        return without(tree, self.place)


class Anew(Change):
    """The kids of a place numbered anew, from 1 on in their order."""

    def __init__(self, place):
        self.place = place

    def reason(self, tree):
        """None where the change fits the tree, else why it does not."""
        return place_reason(tree, self.place)

    def done(self, tree):
        """The tree with the new labels."""
        refuse_unfit(self, tree)
        node = node_at(tree, self.place)
        kids = [(str(number), kid[1], kid[2]) for number, kid in enumerate(node[2], start=1)]
        return with_node(tree, self.place, (node[0], node[1], tuple(kids)))


def refuse_unfit(change, tree):
    why = change.reason(tree)
    if why is not None:
        raise NoFit(why)


def place_reason(tree, place):
    return "place" if node_at(tree, place) is None else None


def deep_with(tree, place, node):
    # Reckoned without making the tree: a kid stands one level beneath its place, which has a level for each label.
    return max(deep(tree), len(place) + 1 + deep(node))


def spots(words, old):
    # Every beginning is looked at, so that two that overlap count as two.
    length = len(old)
    return [begin for begin in range(len(words) - length + 1) if words[begin:begin + length] == old]
