"""Which parts of a tree a change touches, and whether two changes are apart."""

from codemend.changes import Anew, LeaveOut, PutIn

WORDS = "words"
FROM_ON = "from on"
BENEATH = "beneath"


def are_apart(one, other):
    """Whether no part of a tree is touched by both changes."""
    return not have_common(part_of(one), part_of(other))


def part_of(change):
    """What a change touches: the words of a place, all from a place on, or all beneath it."""
    if isinstance(change, PutIn):
        return (FROM_ON, change.place + (change.node[0],))
    if isinstance(change, LeaveOut):
        return (FROM_ON, change.place)
    if isinstance(change, Anew):
        return (BENEATH, change.place)
    return (WORDS, change.place)


def have_common(one, other):
    if one[0] == WORDS:
        return has_words_of(other, one[1])
    if other[0] == WORDS:
        return has_words_of(one, other[1])
    return is_at_or_above(one[1], other[1]) or is_at_or_above(other[1], one[1])


def has_words_of(part, place):
    if part[0] == WORDS:
        return part[1] == place
    if part[0] == FROM_ON:
        return is_at_or_above(part[1], place)
    return part[1] != place and is_at_or_above(part[1], place)


def is_at_or_above(place, lower):
    return lower[:len(place)] == place
