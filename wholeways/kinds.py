"""The words that all parts share: integers, numbers, words, keys, worths, marks, items, lots, names."""

GREATEST_WORTH = 10 ** 18
GREATEST_ITEM = 10 ** 30
GREATEST_COMMIT = 10 ** 18
GREATEST_WEIGHT = 10 ** 9
LONGEST_WORD = 12
NAME_LENGTH = 3
TIE_WORD_LENGTH = 2


def is_integer(thing):
    """A flag is an int of Python's, but no integer."""
    return isinstance(thing, int) and not isinstance(thing, bool)


def is_within(thing, low, high):
    """Whether a thing is an integer from low to high, both counted."""
    return is_integer(thing) and low <= thing <= high


def is_number(thing):
    return is_integer(thing) and thing >= 0


def is_word(thing):
    """Whether a thing is a string of at most 12 letters from a to z, perhaps empty."""
    if not isinstance(thing, str) or len(thing) > LONGEST_WORD:
        return False
    return thing == "" or (thing.isascii() and thing.isalpha() and thing.islower())


def is_key(thing):
    return is_word(thing) and thing != ""


def is_worth(thing):
    return is_within(thing, -GREATEST_WORTH, GREATEST_WORTH)


def is_mark(thing):
    return thing is None or is_worth(thing)


def is_item(thing):
    return is_word(thing) or is_within(thing, -GREATEST_ITEM, GREATEST_ITEM)


def is_ascending(row):
    """Of things that can be compared: whether they ascend, each once."""
    return all([row[k] < row[k + 1] for k in range(len(row) - 1)])


def is_lot(thing):
    return isinstance(thing, tuple) and all([is_number(item) for item in thing]) and is_ascending(thing)


def is_items(thing, least, most):
    """Whether a thing is a tuple of so many items."""
    return isinstance(thing, tuple) and least <= len(thing) <= most and all([is_item(item) for item in thing])


def is_name(thing):
    """Whether a thing can be the name of a node."""
    return is_word(thing) and len(thing) == NAME_LENGTH


def is_tie_word(thing):
    """Whether a thing can be the word of a tie."""
    return is_word(thing) and len(thing) == TIE_WORD_LENGTH


def is_weight(thing):
    return is_within(thing, 0, GREATEST_WEIGHT)


def is_pair(thing):
    return isinstance(thing, tuple) and len(thing) == 2


def is_triple(thing):
    return isinstance(thing, tuple) and len(thing) == 3
