"""Books that several tests use: written out shortly, and drawn by chance from a told number."""

import random

from codemend.acts import Book
from codemend.changes import Anew, LeaveOut, PutIn, Read, Swap

LABELS = ["1", "1a", "2", "3", "10"]
WORDS = ["a", "b", "c"]


def book_of(tree, rows):
    """A book of acts (name, day, deeds), or (name, day, other) for one that takes back."""
    book = Book(tree)
    for name, day, rest in rows:
        if isinstance(rest, str):
            book.back(name, day, rest)
        else:
            book.act(name, day, rest)
    return book


def one_act(tree, changes, made=0):
    """A book of one act "a" with changes (day, change) or (day, change, since)."""
    return book_of(tree, [("a", made, [("change",) + tuple(row) + (None,) * (3 - len(row)) for row in changes])])


def spelled(thing):
    """Anything that is handed in or told, changes within it as their class and fields."""
    if isinstance(thing, (tuple, list)):
        return type(thing)(spelled(part) for part in thing)
    if hasattr(thing, "reason"):
        return (type(thing).__name__, dict(vars(thing)))
    return thing


def kept(book):
    """All that a book holds, spelled out."""
    return spelled((book.first(), book.acts()))


def chance_words(chance, most):
    return tuple(chance.choice(WORDS) for _ in range(chance.randint(0, most)))


def chance_node(chance, label, levels):
    labels = chance.sample(LABELS, chance.randint(0, 3)) if levels > 1 else []
    kids = [chance_node(chance, kid, levels - 1) for kid in LABELS if kid in labels]
    return (label, chance_words(chance, 4), tuple(kids))


def chance_place(chance, most=3):
    return tuple(chance.choice(LABELS) for _ in range(chance.randint(0, most)))


def chance_change(chance):
    kind = chance.randint(0, 6)
    if kind == 0:
        return Swap(chance_place(chance), (chance.choice(WORDS),), chance_words(chance, 2))
    if kind == 1:
        return Swap(chance_place(chance, 1), tuple(chance.choice(WORDS) for _ in "ab"), chance_words(chance, 3))
    if kind == 2:
        return Read(chance_place(chance, 2), chance_words(chance, 3))
    if kind == 3:
        return LeaveOut(chance_place(chance))
    if kind == 4:
        return Anew(chance_place(chance, 2))
    return PutIn(chance_place(chance, 2), chance_node(chance, chance.choice(LABELS), 2))


def chance_deed(chance, ahead):
    if not ahead or chance.random() < 0.7:
        since = chance.choice([None, None, chance.randint(-2, 12)])
        return ("change", chance.randint(-2, 12), chance_change(chance), since)
    kind = chance.choice(["later", "instead", "drop"])
    named = (kind, chance.choice(ahead), chance.randint(-1, 5))
    if kind == "later":
        return named + (chance.randint(-2, 14),)
    return named + (chance_change(chance),) if kind == "instead" else named


def chance_book(seed):
    """A book of up to nine acts, made on the days 0 to about 10, always the same for the same number."""
    chance = random.Random(seed)
    rows = []
    day = 0
    # Not rising by letters, so that the order of names is not that of the acts.
    for name in chance.sample(["z", "b", "ya", "c", "xx", "d", "w", "aa", "v"], chance.randint(1, 9)):
        day += chance.choice([0, 1, 1, 2])
        ahead = [row[0] for row in rows]
        if ahead and chance.random() < 0.2:
            rows.append((name, day, chance.choice(ahead)))
        else:
            rows.append((name, day, [chance_deed(chance, ahead) for _ in range(chance.randint(0, 6))]))
    return book_of(chance_node(chance, "", 3), rows)
