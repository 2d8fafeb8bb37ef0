"""What a transaction has seen and written: keys, ranges with own keys, writes."""

from wholeways.kinds import is_ascending, is_key, is_mark


def are_keys(thing):
    """Whether a thing is an ascending tuple of keys."""
    return isinstance(thing, tuple) and all([is_key(key) for key in thing]) and is_ascending(thing)


def is_seen_range(thing):
    """Whether a thing is a triple (low, high, own), own being any keys from low to high."""
    if not isinstance(thing, tuple) or len(thing) != 3:
        return False
    low, high, own = thing
    if not is_key(low) or not is_key(high) or low > high or not are_keys(own):
        return False
    return len(own) == 0 or (low <= own[0] and own[-1] <= high)


def are_ranges(thing):
    """Whether a thing is an ascending tuple of such triples."""
    return isinstance(thing, tuple) and all([is_seen_range(item) for item in thing]) and is_ascending(thing)


def is_write(thing):
    """Whether a thing is a pair of a key and a worth, or None for what was dropped."""
    return isinstance(thing, tuple) and len(thing) == 2 and is_key(thing[0]) and is_mark(thing[1])


def are_writes(thing):
    """Whether a thing is an ascending tuple, by unlike keys, of such pairs."""
    if not isinstance(thing, tuple) or not all([is_write(item) for item in thing]):
        return False
    return is_ascending([key for key, _ in thing])


def has_seen_key(dealing, key):
    """Whether a dealing asked its snapshot for a key, alone or in a range in which it was not its own."""
    if key in dealing.gets:
        return True
    for low, high, own in dealing.ranges:
        if low <= key <= high and key not in own:
            return True
    return False


def written_keys(dealing):
    return [key for key, _ in dealing.writes]
