"""Vacuum: which versions somebody may still read, and how the others are taken."""

from wholeways.errors import NoNumber, NoSnapshots, NoVersion, NoVersions
from wholeways.kinds import GREATEST_COMMIT, is_integer, is_lot, is_mark, is_within
from wholeways.versions import all_versions, take_version

MOST_SWEPT = 1000


def is_version(thing):
    """Whether a thing is a pair of a commit and a mark."""
    if not isinstance(thing, tuple) or len(thing) != 2:
        return False
    return is_within(thing[0], 1, GREATEST_COMMIT) and is_mark(thing[1])


def need_versions(versions):
    if not isinstance(versions, (list, tuple)):
        raise NoVersions(-1)
    for index, version in enumerate(versions):
        if not is_version(version) or (index > 0 and version[0] >= versions[index - 1][0]):
            raise NoVersions(index)


def need_last(last, least):
    if not is_within(last, least, GREATEST_COMMIT):
        raise NoNumber()


def need_snapshots(open_lot, last):
    if not is_lot(open_lot) or (len(open_lot) > 0 and open_lot[-1] > last):
        raise NoSnapshots()


def need_all(versions, open_lot, last):
    need_versions(versions)
    need_last(last, versions[0][0] if len(versions) > 0 else 0)
    need_snapshots(open_lot, last)


def asked_of(open_lot, last):
    """The asked snapshots, ascending; those to come see of these versions what the last one sees."""
    return sorted(set(list(open_lot) + [last]))


def seen_each(versions, snapshots):
    """The list of the versions that ascending snapshots see, None where there is none."""
    found = []
    place = len(versions)
    for snapshot in snapshots:
        while place > 0 and versions[place - 1][0] <= snapshot:
            place -= 1
        found.append(versions[place] if place < len(versions) else None)
    return found


def needed(versions, open_lot, last):
    """The lot of the commits of the versions that are needed."""
    need_all(versions, open_lot, last)
    return needed_commits(versions, open_lot, last)


def needed_commits(versions, open_lot, last):
    """A gone one is needed only to hide an elder one that is needed."""
    seen = {version[0]: True for version in seen_each(versions, asked_of(open_lot, last)) if version is not None}
    found = []
    for commit, mark in reversed(versions):
        if commit in seen and (mark is not None or found):
            found.append(commit)
    return tuple(found)


def is_kept_right(versions, open_lot, last, thing):
    """Whether a thing is a lot of commits of which alone each asked snapshot sees the same, or none for a gone one."""
    need_all(versions, open_lot, last)
    if not is_lot(thing):
        return False
    chosen = {commit: True for commit in thing}
    kept = [version for version in versions if version[0] in chosen]
    if len(kept) < len(chosen):
        return False
    asked = asked_of(open_lot, last)
    return all([is_same(whole, alone) for whole, alone in zip(seen_each(versions, asked), seen_each(kept, asked))])


def is_same(whole, alone):
    """Whether what is seen of those that are kept may stand for what is seen of all."""
    if alone is None:
        return whole is None or whole[1] is None
    return alone == whole


def harm(versions, open_lot, last, commit):
    """The least asked snapshot at which a read tells another version without the one of a commit, or None."""
    need_all(versions, open_lot, last)
    if not is_integer(commit) or commit not in [number for number, _ in versions]:
        raise NoVersion()
    others = [version for version in versions if version[0] != commit]
    asked = asked_of(open_lot, last)
    for snapshot, whole, less in zip(asked, seen_each(versions, asked), seen_each(others, asked)):
        if told(whole) != told(less):
            return snapshot
    return None


def told(version):
    """The commit of a version that a read tells, None for none, and for a gone one."""
    if version is None or version[1] is None:
        return None
    return version[0]


def takeable(batch, open_lot, last):
    """The list of the pairs (key, commit) that are not needed, keys ascending, of each key the eldest first."""
    need_last(last, 0)
    need_snapshots(open_lot, last)
    rows = {}
    for key, commit, mark in all_versions(batch):
        rows.setdefault(key, []).append((commit, mark))
    found = []
    for key, versions in rows.items():
        kept = {commit: True for commit in needed_commits(versions, open_lot, last)}
        found.extend([(key, commit) for commit, _ in reversed(versions) if commit not in kept])
    return found


def sweep(batch, open_lot, last, most):
    """The first so many takeable versions are taken: how many."""
    rows = takeable(batch, open_lot, last)
    if not is_within(most, 1, MOST_SWEPT):
        raise NoNumber()
    taken = rows[:most]
    for key, commit in taken:
        take_version(batch, key, commit)
    return len(taken)
