"""Trees and places written as texts, and read from them."""

from codemend.errors import NoPlace, NoText
from codemend.labels import is_label
from codemend.trees import is_tree, node_at, places

MOST_LABELS = 8


def shown(tree):
    """A tree as rows of text, one for each place."""
    return "\n".join([row_text(place, node_at(tree, place)[1]) for place in places(tree)])


def row_text(place, words):
    return " ".join((place_text(place),) + words)


def place_text(place):
    """A place as a text: its labels joined by points, or a point alone for the tree itself."""
    if place == ():
        return "."
    return ".".join(place)


def read(text):
    """The tree of which the text was written."""
    if not isinstance(text, str):
        raise NoText("a tree is read from a text alone")
    tree = tree_of_rows([row_parts(row) for row in text.split("\n")])
    # Rows in a wrong order, or with none above them, are seen only here: written again they stand elsewhere or nowhere.
    if not is_tree(tree) or shown(tree) != text:
        raise NoText("not the text of a tree")
    return tree


def row_parts(row):
    parts = row.split(" ")
    return (labels_in(parts[0]), tuple(parts[1:]))


def tree_of_rows(rows):
    kids = {}
    node = None
    # From the last row on, so that all that is beneath a place is made ahead of its own node.
    for place, words in reversed(rows):
        label = "" if place == () else place[-1]
        node = (label, words, tuple(reversed(kids.get(place, []))))
        kids.setdefault(place[:-1], []).append(node)
    return node


def read_place(text):
    """The place of which the text was written."""
    if not isinstance(text, str):
        raise NoPlace(None)
    place = labels_in(text)
    if not is_place(place):
        raise NoPlace(None)
    return place


def labels_in(text):
    if text == ".":
        return ()
    return tuple(text.split("."))


def is_place(labels):
    return len(labels) <= MOST_LABELS and all([is_label(label) for label in labels])
