"""The plain changes from one tree to another, and two drafts of a tree brought together."""

from codemend.fewest import come_or_gone, read_anew
from codemend.trees import kid_labels, kid_with


def plain_changes(one, other):
    """The changes from one tree to another that go into each two kids of one label."""
    return plain_at(one, other, ())


def plain_at(one, other, place):
    changes = read_anew(one, other, place)
    within = []
    for label in kid_labels((one, other)):
        kid = kid_with(one, label)
        other_kid = kid_with(other, label)
        if kid is None or other_kid is None:
            changes.append(come_or_gone(kid, other_kid, place))
        else:
            within.extend(plain_at(kid, other_kid, place + (label,)))
    # The kids of both come behind all kids of one alone, whatever their labels.
    return changes + within


def together(first, one, other):
    """("tree", tree), or ("clash", places): what comes of two drafts of a first tree."""
    clashes = []
    tree = joined(first, one, other, (), clashes)
    return ("tree", tree) if len(clashes) == 0 else ("clash", clashes)


def joined(first, one, other, place, clashes):
    """The node that comes of the three at a place; where they clash, the places come to the list."""
    words = settled(first[1], one[1], other[1], place, clashes)
    kids = []
    for label in kid_labels((first, one, other)):
        three = [kid_with(node, label) for node in (first, one, other)]
        kid = joined_kid(three, place + (label,), clashes)
        if kid is not None:
            kids.append(kid)
    return (first[0], words, tuple(kids))


def joined_kid(three, place, clashes):
    if None in three:
        return settled(three[0], three[1], three[2], place, clashes)
    return joined(three[0], three[1], three[2], place, clashes)


def settled(first, one, other, place, clashes):
    """Words, or a kid that one of the three lacks (None there): what one draft alone changed is as it has it."""
    if one != first and other != first and one != other:
        clashes.append(place)
    return other if one == first else one
