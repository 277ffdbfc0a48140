"""A book: a first tree and the acts that change it, in their order."""

from codemend.errors import NoAct, NoDay, NoName, Twice
from codemend.labels import SMALL_LETTERS, has_only

LONGEST_NAME = 8


class Book:
    """A first tree and acts, each behind the others."""

    def __init__(self, tree):
        self.tree = tree
        self.past = []

    def act(self, name, day, deeds):
        """Puts an act with deeds behind the others."""
        self.refuse_act(name, day, named_in(deeds))
        # A tuple of its own: what the asker does later to the list is not to be seen here.
        self.past.append((name, day, None, tuple(deeds)))

    def back(self, name, day, other):
        """Puts an act behind the others that takes back one of them."""
        self.refuse_act(name, day, [other])
        self.past.append((name, day, other, ()))

    def first(self):
        """The first tree."""
        return self.tree

    def acts(self):
        """The acts in their order, as tuples (name, day, other, deeds)."""
        return [(name, day, other, list(deeds)) for name, day, other, deeds in self.past]

    def refuse_act(self, name, day, named):
        ahead = [entry[0] for entry in self.past]
        if not is_name(name):
            raise NoName("not one to eight small letters")
        if name in ahead:
            raise Twice("an act has this name already")
        if len(self.past) > 0 and day < self.past[-1][1]:
            raise NoDay("earlier than the act ahead")
        for other in named:
            if other not in ahead:
                raise NoAct(other)


def is_name(thing):
    if not isinstance(thing, str):
        return False
    return 1 <= len(thing) <= LONGEST_NAME and has_only(thing, SMALL_LETTERS)


def named_in(deeds):
    return [deed[1] for deed in deeds if deed[0] != "change"]
