"""Trees drawn in twos and threes by chance, and rows of changes done on them, for several tests."""

from books import chance_node, chance_words
from codemend.changes import LeaveOut, PutIn, Read
from codemend.trees import places

MORE_LABELS = ["1", "1a", "2", "3", "10", "11"]


def tree_of(*kids, words=()):
    return ("", words, kids)


def node(label, *kids, words=()):
    return (label, words, kids)


def led(test, tree, changes):
    """The tree to which the changes lead, each of them fitting where its turn comes."""
    for change in changes:
        test.assertIsNone(change.reason(tree), change)
        tree = change.done(tree)
    return tree


def led_passing(tree, changes):
    """The tree to which the changes lead, those passed over that do not fit."""
    for change in changes:
        if change.reason(tree) is None:
            tree = change.done(tree)
    return tree


def flat(tree):
    """The tree as a dict of places with their words."""
    told = {}
    waiting = [((), tree)]
    while waiting:
        place, node = waiting.pop()
        told[place] = node[1]
        waiting += [(place + (kid[0],), kid) for kid in node[2]]
    return told


def drawn_tree(chance, levels=4):
    return chance_node(chance, "", levels)


def deep_tree(chance, levels=9):
    """A tree of so many levels: one kid goes down to the last one, others stand beside it here and there."""
    node = (chance.choice(MORE_LABELS), chance_words(chance, 2), ())
    for level in range(levels - 1):
        kids = [(label, chance_words(chance, 2), ()) for label in MORE_LABELS
                if label != node[0] and chance.random() < 0.3]
        kids = sorted(kids + [node], key=lambda kid: MORE_LABELS.index(kid[0]))
        label = "" if level == levels - 2 else chance.choice(MORE_LABELS)
        node = (label, chance_words(chance, 2), tuple(kids))
    return node


def altered(chance, tree, times):
    """The tree behind so many changes drawn by chance, those passed over that do not fit."""
    for _ in range(times):
        place = chance.choice(places(tree))
        kind = chance.randint(0, 2)
        if kind == 0:
            change = Read(place, chance_words(chance, 2))
        elif kind == 1:
            change = PutIn(place, chance_node(chance, chance.choice(MORE_LABELS), chance.randint(1, 2)))
        else:
            change = LeaveOut(place)
        tree = led_passing(tree, [change])
    return tree


def drawn_pair(chance):
    """Two trees: drawn apart, or one that came of the other by a few changes, in either order; some nine deep."""
    kind = chance.randint(0, 4)
    if kind == 0:
        return (drawn_tree(chance), drawn_tree(chance))
    one = deep_tree(chance) if kind < 3 else drawn_tree(chance)
    pair = [one, altered(chance, one, chance.randint(0, 6))]
    chance.shuffle(pair)
    return tuple(pair)


def drawn_drafts(chance):
    """A first tree and two drafts of it, a few changes behind it each, one perhaps behind the other's."""
    first = deep_tree(chance) if chance.random() < 0.3 else drawn_tree(chance, 3)
    common = altered(chance, first, chance.randint(0, 2)) if chance.random() < 0.5 else first
    return (first, altered(chance, common, chance.randint(0, 4)), altered(chance, common, chance.randint(0, 4)))
