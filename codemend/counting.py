"""Which acts live, and which changes count, seen from a day."""


def living(book, seen):
    """The names of the acts that live, in their order."""
    return [act[0] for act in living_acts(book, seen)]


def living_acts(book, seen):
    lives = []
    taken_back = {}
    # From the last one on: whether an act lives hangs on the ones behind it alone.
    for name, day, other, deeds in reversed(book.acts()):
        if day <= seen and name not in taken_back:
            lives.append((name, day, deeds))
            if other is not None:
                taken_back[other] = True
    lives.reverse()
    return lives


def what_counts(book, seen):
    """The changes that count, in their order: tuples (day, name, number, change, since)."""
    counted = {}
    for name, made, deeds in living_acts(book, seen):
        for number, deed in enumerate(deeds):
            take_deed(counted, name, made, number, deed)
    told = [(entry[0], key[0], key[1], entry[1], entry[2]) for key, entry in counted.items()]
    # Among days alike the order of the acts and numbers stays: the dict has it, and a key keeps its spot there.
    return sorted(told, key=lambda entry: entry[0])


def take_deed(counted, name, made, number, deed):
    if deed[0] == "change":
        counted[(name, number)] = (deed[1], deed[2], deed[3])
    elif finds(counted, deed, made):
        change_counted(counted, deed)


def finds(counted, deed, made):
    entry = counted.get((deed[1], deed[2]))
    return entry is not None and entry[0] > made


def change_counted(counted, deed):
    key = (deed[1], deed[2])
    entry = counted[key]
    if deed[0] == "later":
        counted[key] = (deed[3], entry[1], entry[2])
    elif deed[0] == "instead":
        counted[key] = (entry[0], deed[3], entry[2])
    else:
        counted.pop(key)
