"""Trees, places and things of other kinds that several tests use."""


def sample():
    # Made anew at each call, so that one that was handed in can be compared with one that never was.
    # The labels 1 and 2 stand at several places: a place is found by all of its labels, not by the last one.
    return (
        "", ("all", "of", "it"), (
            ("1", ("one",), (
                ("1", ("inner", "one"), ()),
                ("1a", (), (
                    ("2", ("deepest",), ()),
                )),
                ("2", ("inner", "two"), ()),
            )),
            ("2", (), (
                ("1", ("inner", "one"), ()),
                ("10", ("ten",), ()),
            )),
            ("2a", ("two", "a"), ()),
            ("10", ("ten", "ten"), (
                ("2", (), ()),
            )),
        ),
    )


SAMPLE_PLACES = [
    (), ("1",), ("1", "1"), ("1", "1a"), ("1", "1a", "2"), ("1", "2"), ("2",), ("2", "1"), ("2", "10"),
    ("2a",), ("10",), ("10", "2"),
]

MISSING_PLACES = [
    ("3",), ("1a",), ("11",), ("2b",), ("1", "3"), ("1", "1b"), ("1", "10"), ("2", "2"), ("10", "1"),
    ("1", "1", "1"), ("1", "1a", "1"), ("1", "1a", "2", "2"), ("2a", "1"), ("10", "2", "1"), ("3", "1"),
    ("3", "1", "2"), ("1", "1a", "2", "1", "1", "1", "1", "1"),
]

ALONE = ("", (), ())

OTHER_KINDS = [
    None, True, False, 0, 1, -3, 1.5, "", "1", "abc", ". all", b"", [], [1], {}, {"": ()}, {1, 2}, (), object(), str,
    len,
]


def chain(levels, label="1"):
    """A node that is so many levels deep, each with the next one as its only kid."""
    node = (label, ("end",), ())
    for _ in range(levels - 1):
        node = (label, (), (node,))
    return node


def chain_tree(levels):
    """A tree that is so many levels deep, by only kids."""
    return ("", (), (chain(levels - 1),) if levels > 1 else ())


def bushy_chain(levels, spot):
    """A node that is so many levels deep by one of three kids, the others having none."""
    node = (str(spot), ("w",), ())
    for _ in range(levels - 1):
        kids = [("1", ("a",), ()), ("2", ("b",), ()), ("3", (), ())]
        kids[spot - 1] = node
        node = (str(spot), ("w",), tuple(kids))
    return node


def bushy_tree(levels, spot):
    return ("",) + bushy_chain(levels, spot)[1:]


def rebuilt(tree, place, make):
    """The tree with what make tells of the node at the place in that node's stead."""
    if place == ():
        return make(tree)
    kids = [rebuilt(kid, place[1:], make) if kid[0] == place[0] else kid for kid in tree[2]]
    return (tree[0], tree[1], tuple(kids))


def no_texts():
    """Things of every kind that is no text, deep ones and ones that hold themselves among them."""
    nested = []
    for _ in range(5000):
        nested = [nested]
    ring = []
    ring.append(ring)
    things = [thing for thing in OTHER_KINDS if not isinstance(thing, str)]
    return things + [
        b".", b"abc", bytearray(b"."), ["."], ["abc"], (".",), ("abc",), ("a", "b"), {"abc": 1}, {"abc"}, 10 ** 70,
        nested, ring, sample(), ALONE,
    ]
