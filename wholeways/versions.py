"""Versions of keys in a tree: what each snapshot sees."""

from wholeways.errors import NoChanges, NoCommit, NoSnapshot
from wholeways.kinds import GREATEST_COMMIT, GREATEST_WORTH, is_key, is_mark, is_within
from wholeways.needs import need_key
from wholeways.tree import all_spots, first_from, put, take, walk


def need_commit(commit):
    if not is_within(commit, 1, GREATEST_COMMIT):
        raise NoCommit()


def need_snapshot(snapshot):
    if not is_within(snapshot, 0, GREATEST_COMMIT):
        raise NoSnapshot()


def are_changes(thing):
    """Whether a thing is a dict from keys to marks."""
    if not isinstance(thing, dict):
        return False
    return all([is_key(key) and is_mark(mark) for key, mark in thing.items()])


def write_all(batch, commit, changes):
    """The changes become versions of a commit."""
    need_commit(commit)
    if not are_changes(changes):
        raise NoChanges()
    for key in sorted(changes):
        put(batch, (key, -commit), changes[key])


def at(batch, snapshot, key):
    """The worth of a key that a snapshot sees, or None."""
    need_snapshot(snapshot)
    need_key(key)
    found = first_from(batch, (key, -snapshot))
    if found is None or found[0] != key:
        return None
    return found[2]


def range_at(batch, snapshot, low, high):
    """The ascending list of the pairs (key, worth) that a snapshot sees from low to high, both counted."""
    need_snapshot(snapshot)
    need_key(low)
    need_key(high)
    # no version lies at 0, so all those of high stand below this spot
    return seen_pairs(walk(batch, (low, -GREATEST_WORTH), (high, 0)), snapshot)


def seen_pairs(triples, snapshot):
    """Of spots of versions, newest first of each key, the pairs of keys and worths that a snapshot sees."""
    seen = {}
    for key, number, mark in triples:
        if -number <= snapshot and key not in seen:
            seen[key] = mark
    return [(key, worth) for key, worth in seen.items() if worth is not None]


def versions_of(batch, key):
    """The list of the pairs (commit, mark) of a key, newest first."""
    need_key(key)
    return [(-number, mark) for _, number, mark in walk(batch, (key, -GREATEST_WORTH), (key, 0))]


def take_version(batch, key, commit):
    """One version goes."""
    need_key(key)
    need_commit(commit)
    take(batch, (key, -commit))


def all_versions(batch):
    """The list of the triples (key, commit, mark), keys ascending, of each key the newest first."""
    return [(key, -number, mark) for key, number, mark in all_spots(batch)]


def dict_at(batch, snapshot):
    """The dict of all that a snapshot sees."""
    need_snapshot(snapshot)
    return dict(seen_pairs(all_spots(batch), snapshot))
