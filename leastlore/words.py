"""Which things are whole numbers, names and values, and how numbers are written."""

FIGURES = "0123456789"
LETTERS = "abcdefghijklmnopqrstuvwxyz"
MOST_IN_NAME = 8
MOST_IN_VALUE = 12
OWN_WORDS = (
    "all", "key", "days", "turns", "last", "ends", "now", "both", "either",
    "but", "let", "bar", "frame", "find", "known", "ask",
)


def is_whole(thing):
    """Whether a thing is a whole number."""
    # To Python a truth is an int, too.
    return isinstance(thing, int) and not isinstance(thing, bool)


def is_within(thing, low, high):
    """Whether a thing is a whole number from low to high, both within."""
    return is_whole(thing) and low <= thing <= high


def is_written_of(thing, signs, most):
    """Whether a thing is a text of one to so many of these signs."""
    if not isinstance(thing, str) or not 1 <= len(thing) <= most:
        return False
    return all(sign in signs for sign in thing)


def is_name(thing):
    """Whether a thing is a name."""
    return is_written_of(thing, LETTERS, MOST_IN_NAME) and thing not in OWN_WORDS


def is_value(thing):
    """Whether a thing is a value."""
    return is_written_of(thing, LETTERS + FIGURES, MOST_IN_VALUE)


def plain_number(thing, most):
    """The number, none above the most, that a thing plainly writes, or None."""
    # A longer text writes a greater number; Python may refuse to read a very long one.
    if not is_written_of(thing, FIGURES, len(str(most))):
        return None
    if thing[0] == "0" and thing != "0":
        return None
    number = int(thing)
    return number if number <= most else None


def own_words():
    """The words that are no names."""
    return list(OWN_WORDS)


def is_same(thing, told):
    """Whether a thing is equal to what is told, and of the same kinds throughout."""
    if isinstance(thing, (list, tuple)) and isinstance(told, (list, tuple)):
        if isinstance(thing, list) != isinstance(told, list) or len(thing) != len(told):
            return False
        return all(is_same(mine, theirs) for mine, theirs in zip(thing, told))
    # To Python a truth is equal to a number.
    return isinstance(thing, bool) == isinstance(told, bool) and thing == told
