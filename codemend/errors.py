"""The refusals of the program, one class for each."""


class MendError(ValueError):
    """Any refusal."""


class NoPlace(MendError):
    """There is no such place, or it can't be used as asked."""

    def __init__(self, place):
        MendError.__init__(self, f"not possible at the place {place!r}")
        self.place = place


class NoText(MendError):
    """What was to be read is not the text of a tree."""


class NoFit(MendError):
    """A change does not fit the tree."""

    def __init__(self, why):
        MendError.__init__(self, f"the change does not fit: {why}")
        self.why = why


class NoName(MendError):
    """What was handed in is no name of an act."""


class Twice(MendError):
    """An act has this name already."""


class NoDay(MendError):
    """A day is earlier than it may be."""


class NoAct(MendError):
    """No act ahead has this name."""

    def __init__(self, name):
        MendError.__init__(self, f"no act ahead is called {name!r}")
        self.name = name


class NoRow(MendError):
    """What was said to the desk is no row."""
