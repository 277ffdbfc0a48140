"""The distance of two trees, and the fewest changes from one to the other."""

from codemend.changes import LeaveOut, PutIn, Read
from codemend.trees import kid_labels, kid_with

# Whatever is unlike within two kids of one label, leaving out the one and putting in the other takes two changes.
MOST_FOR_A_KID = 2


def distance(one, other):
    """How many changes the fewest are from one tree to another."""
    total = 0 if one[1] == other[1] else 1
    for label in kid_labels((one, other)):
        total += kid_distance(kid_with(one, label), kid_with(other, label))
    return total


def kid_distance(one, other):
    if one is None or other is None:
        return 1
    return min(MOST_FOR_A_KID, distance(one, other))


def fewest(one, other):
    """The fewest changes that lead from one tree to another, a list of Read, LeaveOut and PutIn."""
    changes = fewest_at(one, other, ())
    # The first tree may be deeper than a tree is: what makes it so is to be gone ahead of all that comes in.
    coming = [change for change in changes if isinstance(change, PutIn)]
    return [change for change in changes if not isinstance(change, PutIn)] + coming


def fewest_at(one, other, place):
    changes = read_anew(one, other, place)
    for label in kid_labels((one, other)):
        changes.extend(fewest_for_kid(kid_with(one, label), kid_with(other, label), place))
    return changes


def fewest_for_kid(one, other, above):
    if one is None or other is None:
        return [come_or_gone(one, other, above)]
    place = above + (one[0],)
    within = fewest_at(one, other, place)
    return within if len(within) <= MOST_FOR_A_KID else [LeaveOut(place), PutIn(above, other)]


def read_anew(one, other, place):
    """The Read that brings the other node's words to the place, in a list, or none where they are the same."""
    return [] if one[1] == other[1] else [Read(place, other[1])]


def come_or_gone(one, other, above):
    """The change for a kid of one node alone, the kid of the other being None."""
    return PutIn(above, other) if one is None else LeaveOut(above + (one[0],))
