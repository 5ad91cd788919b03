"""Judges of plain kinds of values: words, whole numbers, counts, lists without doubles."""

LETTERS = "abcdefghijklmnopqrstuvwxyz"
MOST_LETTERS = 8


def is_word(value):
    """Tell whether any object is a word, as lamps are called."""
    return isinstance(value, str) and 1 <= len(value) <= MOST_LETTERS and all([sign in LETTERS for sign in value])


def are_words(value):
    """Tell whether any object is a list of words, in any order, doubles let."""
    return isinstance(value, list) and all([is_word(word) for word in value])


def is_whole(value):
    """Tell whether any object is a whole number; Python takes True for one, the document does not."""
    return isinstance(value, int) and not isinstance(value, bool)


def is_count(value):
    """Tell whether any object is a count."""
    return is_whole(value) and value >= 0


def are_unlike(values):
    """Tell whether a list of words, numbers or tuples of these has no doubles."""
    return len(set(values)) == len(values)


def is_ascending(values):
    """Tell whether a list of words or numbers is ascending."""
    return values == sorted(set(values))


def copied(value):
    """Return any object with new lists in it, in tuples, too; what else it is made of never changes."""
    if isinstance(value, list):
        return [copied(item) for item in value]
    if isinstance(value, tuple):
        return tuple([copied(item) for item in value])
    return value
