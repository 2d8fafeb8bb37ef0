"""A transaction: it reads the store as it stood at its snapshot, and keeps what it writes to itself."""

from wholeways.errors import BadSeen, Ended, NoWorth
from wholeways.judges import Dealing
from wholeways.kinds import is_worth
from wholeways.needs import need_key
from wholeways.seen import are_keys, are_ranges


class Transaction:
    """Is led by a store; look gives the worth of a key at the snapshot, walk the pairs from one key to another."""

    def __init__(self, snapshot, look, walk):
        self._snapshot = snapshot
        self._look = look
        self._walk = walk
        self._is_over = False
        self._own = {}
        self._keys = {}
        self._ranges = {}

    def stands_at(self):
        """Its snapshot."""
        return self._snapshot

    def get(self, key):
        """The worth that it put itself last, None if it dropped the key last, else the snapshot's."""
        self._need_under_way()
        need_key(key)
        if key in self._own:
            return self._own[key]
        look = self._look
        worth = look(key)
        self._keys[key] = True
        return worth

    def between(self, low, high):
        """The ascending list of the pairs of keys and worths that get would give from low to high."""
        self._need_under_way()
        need_key(low)
        need_key(high)
        if high < low:
            return []
        walk = self._walk
        found = dict(walk(low, high))
        own = [key for key in sorted(self._own) if low <= key <= high]
        for key in own:
            found[key] = self._own[key]
        self._ranges[(low, high, tuple(own))] = True
        return [(key, found[key]) for key in sorted(found) if found[key] is not None]

    def put(self, key, worth):
        """The key has this worth now."""
        self._need_under_way()
        need_key(key)
        if not is_worth(worth):
            raise NoWorth()
        self._own[key] = worth

    def drop(self, key):
        """The key has no worth now."""
        self._need_under_way()
        need_key(key)
        self._own[key] = None

    def end(self):
        """It is at its end."""
        self._need_under_way()
        self._is_over = True

    def is_open(self):
        """Whether it is not at its end."""
        return not self._is_over

    def also_saw(self, keys, ranges):
        """These keys and ranges count as seen, too."""
        self._need_under_way()
        if not are_keys(keys) or not are_ranges(ranges):
            raise BadSeen()
        for key in keys:
            self._keys[key] = True
        for seen in ranges:
            self._ranges[seen] = True

    def saw_keys(self):
        """The ascending tuple of the keys that it asked the snapshot for."""
        return tuple(sorted(self._keys))

    def saw_ranges(self):
        """The ascending tuple of the triples (low, high, own) that it asked the snapshot for."""
        return tuple(sorted(self._ranges))

    def wrote(self):
        """The ascending tuple of the pairs of keys and worths that it wrote, None for what it dropped."""
        return tuple([(key, self._own[key]) for key in sorted(self._own)])

    def dealing(self, number):
        """The dealing that it makes with a number, or None."""
        return Dealing(self._snapshot, number, self.saw_keys(), self.saw_ranges(), self.wrote())

    def _need_under_way(self):
        if self._is_over:
            raise Ended()
