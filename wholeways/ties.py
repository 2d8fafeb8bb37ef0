"""Ties between dealings that committed, and the rings that ties make."""

from wholeways.seen import has_seen_key, written_keys


def is_tied(one, other):
    """Whether each serial order has the one of two dealings ahead of the other."""
    if one.number is not None:
        elder = other.number is not None and one.number < other.number
        if elder and writes_one_of(other, written_keys(one)):
            return True
        if one.number <= other.snapshot and has_seen_one_of(other, written_keys(one)):
            return True
    if other.number is None or other.number <= one.snapshot:
        return False
    return has_seen_one_of(one, written_keys(other))


def writes_one_of(dealing, keys):
    own = written_keys(dealing)
    return any([key in own for key in keys])


def has_seen_one_of(dealing, keys):
    return any([has_seen_key(dealing, key) for key in keys])


def ring_from(start, nexts):
    """The first of the shortest rings that begin with start, or None.

    nexts tells of each entry, ascending, to which ones ties lead. All that stand equally far
    from the start are walked through in the order of the first ways to them, so the first way
    that closes is the first of the shortest.
    """
    came = {start: None}
    row = [start]
    while row:
        further = []
        for entry in row:
            for other in nexts[entry]:
                if other == start:
                    return way_to(entry, came)
                if other not in came:
                    came[other] = entry
                    further.append(other)
        row = further
    return None


def way_to(entry, came):
    """The tuple of entries from the one that came from nowhere to this one."""
    way = []
    while entry is not None:
        way.append(entry)
        entry = came[entry]
    return tuple(reversed(way))
