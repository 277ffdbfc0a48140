"""Labels and words: what is one, and the order of labels."""

FIGURES = "0123456789"
SMALL_LETTERS = "abcdefghijklmnopqrstuvwxyz"
WORD_SIGNS = "abcdefghijklmnopqrstuvwxyz0123456789"
MOST_FIGURES = 9
MOST_LETTERS = 3
LONGEST_WORD = 12


def is_label(thing):
    """Whether anything at all is a label."""
    if not isinstance(thing, str):
        return False
    figures = figures_of(thing)
    return is_label_number(figures) and len(thing) - len(figures) <= MOST_LETTERS


def is_word(thing):
    """Whether anything at all is a word."""
    if not isinstance(thing, str):
        return False
    return 1 <= len(thing) <= LONGEST_WORD and has_only(thing, WORD_SIGNS)


def label_before(one, other):
    """Whether one label comes before another one."""
    return label_rank(one) < label_rank(other)


def label_rank(label):
    # By figures alone "10" would come ahead of "2", so the number is compared as a number.
    figures = figures_of(label)
    return (int(figures), label[len(figures):])


def figures_of(label):
    return label.rstrip(SMALL_LETTERS)


def is_label_number(text):
    # Python's isdigit would let in figures of other scripts.
    if not 1 <= len(text) <= MOST_FIGURES:
        return False
    return text[0] != "0" and has_only(text, FIGURES)


def has_only(text, signs):
    return all([sign in signs for sign in text])
