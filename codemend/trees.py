"""Trees of numbered places with words. A node is a tuple (label, words, kids)."""

from codemend.errors import NoPlace
from codemend.labels import is_label, is_word, label_before, label_rank

MOST_DEEP = 9


def is_tree(thing):
    """Whether anything at all is a tree."""
    if not is_triple(thing) or not isinstance(thing[0], str):
        return False
    return thing[0] == "" and has_good_parts(thing, MOST_DEEP)


def is_node(thing, levels):
    return is_triple(thing) and is_label(thing[0]) and has_good_parts(thing, levels)


def is_triple(thing):
    return isinstance(thing, tuple) and len(thing) == 3


def has_good_parts(node, levels):
    # The levels left are counted down on the way, so that no thing, however deep, is walked further than a tree goes.
    return levels > 0 and are_words(node[1]) and are_kids(node[2], levels - 1)


def are_words(thing):
    return isinstance(thing, tuple) and all([is_word(word) for word in thing])


def are_kids(thing, levels):
    if not isinstance(thing, tuple):
        return False
    for kid in thing:
        if not is_node(kid, levels):
            return False
    return are_rising([kid[0] for kid in thing])


def are_rising(labels):
    return all([label_before(one, other) for one, other in zip(labels, labels[1:])])


def deep(node):
    """How deep a node is: one without kids, else one more than its deepest kid."""
    levels = 0
    row = [node]
    while len(row) > 0:
        levels += 1
        row = kids_of_all(row)
    return levels


def kids_of_all(nodes):
    kids = []
    for node in nodes:
        kids.extend(node[2])
    return kids


def node_at(tree, place):
    """The node at a place, the tree itself at (), or None."""
    node = tree
    for label in place:
        node = kid_with(node, label)
        if node is None:
            return None
    return node


def kid_with(node, label):
    for kid in node[2]:
        if kid[0] == label:
            return kid
    return None


def kid_labels(nodes):
    """The labels of the kids of any of the nodes, each once, in their order."""
    labels = {}
    for kid in kids_of_all(nodes):
        labels[kid[0]] = True
    return sorted(list(labels), key=label_rank)


def places(tree):
    """The places of a tree, each one ahead of those beneath it, kids in their order."""
    told = []
    waiting = [((), tree)]
    while len(waiting) > 0:
        here = waiting.pop()
        told.append(here[0])
        # The first kid is to be taken next, and what comes last is taken first.
        for kid in reversed(here[1][2]):
            waiting.append((here[0] + (kid[0],), kid))
    return told


def with_words(tree, place, words):
    """The tree with other words at a place."""
    node = node_or_refusal(tree, place)
    return with_node(tree, place, (node[0], words, node[2]))


def with_kid(tree, place, node):
    """The tree with a node put in beneath a place, by its label's order."""
    above = node_or_refusal(tree, place)
    if kid_with(above, node[0]) is not None:
        raise NoPlace(place)
    ahead = tuple([kid for kid in above[2] if label_before(kid[0], node[0])])
    kids = ahead + (node,) + above[2][len(ahead):]
    return with_node(tree, place, (above[0], above[1], kids))


def without(tree, place):
    """The tree without a place and all beneath it."""
    if place == ():
        raise NoPlace(place)
    node_or_refusal(tree, place)
    above = node_at(tree, place[:-1])
    kids = tuple([kid for kid in above[2] if kid[0] != place[-1]])
    return with_node(tree, place[:-1], (above[0], above[1], kids))


def node_or_refusal(tree, place):
    node = node_at(tree, place)
    if node is None:
        raise NoPlace(place)
    return node


def with_node(tree, place, node):
    # From the place upwards: each node above is made anew round the one that was made last.
    made = node
    for length in range(len(place) - 1, -1, -1):
        above = node_at(tree, place[:length])
        kids = tuple([made if kid[0] == made[0] else kid for kid in above[2]])
        made = (above[0], above[1], kids)
    return made
