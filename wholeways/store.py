"""The store whole: transactions over the versions in the pages of a disk, checked, committed, forced, swept."""

from wholeways.errors import NotOpen
from wholeways.kinds import is_integer
from wholeways.log import formatted
from wholeways.pages import Pages
from wholeways.serial import Check
from wholeways.transactions import Transaction
from wholeways.vacuum import sweep, takeable
from wholeways.versions import all_versions, at, dict_at, range_at, write_all

SWEPT_AT_ONCE = 8


def new_store(blocks, ring):
    """The store of a disk that was formatted just now."""
    return Store(formatted(blocks, ring))


class Store:
    """Leads a disk alone.

    Each look and each change has a batch of its own; what is not done then is dropped by the next
    one, so a change that raises leaves nothing behind.
    """

    def __init__(self, disk):
        self._pages = Pages(disk)
        self._disk = disk
        self._read_last = self._pages.batch().last()
        self._check = Check(self._read_last)
        self._deals = {}
        # from the commits since the opening to their records
        self._records = {}

    def begin(self):
        """The number of a new transaction over the snapshot of now."""
        snapshot = self.last()
        number = self._check.opens(snapshot)
        self._deals[number] = Transaction(
            snapshot,
            lambda key: at(self._pages.batch(), snapshot, key),
            lambda low, high: range_at(self._pages.batch(), snapshot, low, high))
        return number

    def _transaction(self, number):
        if not is_integer(number) or number not in self._deals:
            raise NotOpen()
        return self._deals[number]

    def stands_at(self, number):
        """The snapshot of a transaction."""
        return self._transaction(number).stands_at()

    def get(self, number, key):
        """What a transaction gets at a key."""
        return self._transaction(number).get(key)

    def between(self, number, low, high):
        """What a transaction gets from low to high."""
        return self._transaction(number).between(low, high)

    def put(self, number, key, worth):
        """A transaction puts a worth."""
        self._transaction(number).put(key, worth)

    def drop(self, number, key):
        """A transaction drops a key."""
        self._transaction(number).drop(key)

    def wrote(self, number):
        """What a transaction wrote."""
        return self._transaction(number).wrote()

    def also_saw(self, number, keys, ranges):
        """These keys and ranges count as seen by a transaction, too."""
        self._transaction(number).also_saw(keys, ranges)

    def seen(self, number):
        """The snapshot of a transaction, the keys and ranges that it saw, and what it wrote."""
        deal = self._transaction(number)
        return (deal.stands_at(), deal.saw_keys(), deal.saw_ranges(), deal.wrote())

    def abort(self, number):
        """A transaction is at its end, as if never."""
        self._transaction(number).end()
        self._check.gives_up(number)
        del self._deals[number]

    def commit(self, number):
        """A transaction commits, and lasts: the number of the commit, None if it writes nothing."""
        snapshot = self.stands_at(number)
        commit = self.commit_soon(number)
        # one that only looked lasts if all that it saw does
        self._force_commit(snapshot if commit is None else commit)
        return commit

    def commit_soon(self, number):
        """A transaction commits, and may be lost by a cut: the number of the commit, or None."""
        deal = self._transaction(number)
        _, keys, ranges, writes = self.seen(number)
        commit = self._check.would_commit(number, keys, ranges, writes)
        if commit is not None:
            self._records[commit] = self._written(commit, writes)
        self._check.commits(number, keys, ranges, writes)
        deal.end()
        del self._deals[number]
        return commit

    def _written(self, commit, writes):
        """Writes become versions of a commit in one batch: its record."""
        batch = self._pages.batch()
        write_all(batch, commit, dict(writes))
        batch.set_last(commit)
        return batch.done(("commit", commit))

    def _force_commit(self, commit):
        """The log is forced as far as the record of a commit; what was read at the opening lies there."""
        if commit in self._records:
            self._force_record(self._records[commit])

    def _force_record(self, record):
        if record > self._pages.forced():
            self._pages.force(record)

    def open_ones(self):
        """The dict from the numbers of the open transactions to their snapshots."""
        return {number: deal.stands_at() for number, deal in self._deals.items()}

    def open_snapshots(self):
        """The lot of the snapshots of the open transactions."""
        return tuple(sorted(set(list(self.open_ones().values()))))

    def last(self):
        """The number of the last commit."""
        return self._check.last()

    def lasting(self):
        """The number of the last commit whose record was forced, or read at the opening."""
        commit = self.last()
        while commit > self._read_last and self._records[commit] > self._pages.forced():
            commit -= 1
        return commit

    def force(self):
        """All of the log is forced."""
        self._force_record(self._pages.record())

    def now(self):
        """The dict that the last snapshot sees."""
        return dict_at(self._pages.batch(), self.last())

    def debt(self):
        """How many versions nobody can read any more."""
        return len(takeable(self._pages.batch(), self.open_snapshots(), self.last()))

    def sweep(self, most):
        """The first so many of these go in one batch: how many."""
        batch = self._pages.batch()
        many = sweep(batch, self.open_snapshots(), self.last(), most)
        if many > 0:
            batch.done(("sweep",))
        return many

    def vacuum(self):
        """Sweeps until nothing goes: how many went in all."""
        many = 0
        swept = self.sweep(SWEPT_AT_ONCE)
        while swept > 0:
            many += swept
            swept = self.sweep(SWEPT_AT_ONCE)
        return many

    def versions(self):
        """The list of the triples (key, commit, mark), keys ascending, of each key the newest first."""
        return all_versions(self._pages.batch())

    def checkpoint(self):
        """All lies in the pages on the disk, and the log begins anew."""
        self._pages.checkpoint()

    def dirty(self):
        """The lot of the dirty pages."""
        return self._pages.dirty()

    def write_out(self, page):
        """A dirty page is written to its block; returns whether it was dirty."""
        return self._pages.write_out(page)

    def disk(self):
        """The disk that it leads."""
        return self._disk

    def ties_of_now(self):
        """The lots of the entries that the check remembers, and of those that are open."""
        return (self._check.remembered(), self._check.open_entries())
