"""The check of serial order: it numbers commits, and refuses those that no serial order can hold."""

from wholeways.errors import BadSeen, BadWrites, NoNumber, NoSnapshot, NotOpen, NotRemembered, Refused
from wholeways.judges import Dealing
from wholeways.kinds import is_integer, is_number
from wholeways.seen import are_keys, are_ranges, are_writes, has_seen_key, written_keys
from wholeways.ties import is_tied, ring_from, way_to


class Check:
    """Entries are numbered as they open; each is committed once, or gives up."""

    def __init__(self, last):
        if not is_number(last):
            raise NoNumber()
        self._last = last
        self._many = 0
        # from the entries under way to their snapshots
        self._under_way = {}
        # from the remembered entries to their dealings, and to the ascending lists of where ties lead
        self._dealings = {}
        self._nexts = {}

    def opens(self, snapshot):
        """A new entry is open; returns its number."""
        if not is_integer(snapshot) or not self._can_stand_at(snapshot):
            raise NoSnapshot()
        entry = self._many
        self._many += 1
        self._under_way[entry] = snapshot
        return entry

    def _can_stand_at(self, snapshot):
        """Behind the least open snapshot nothing is forgotten, so an entry may begin there."""
        if snapshot == self._last:
            return True
        return len(self._under_way) > 0 and min(list(self._under_way.values())) <= snapshot < self._last

    def commits(self, entry, keys, ranges, writes):
        """The entry is committed; returns the new commit number, None if it writes nothing."""
        dealing = self._dealing_of(entry, keys, ranges, writes)
        nexts = self._nexts_with(entry, dealing)
        need_no_ring(entry, nexts)
        del self._under_way[entry]
        self._dealings[entry] = dealing
        self._nexts = nexts
        if dealing.number is not None:
            self._last = dealing.number
        self._forget()
        return dealing.number

    def would_commit(self, entry, keys, ranges, writes):
        """What commits would return, raising what it would raise; nothing changes."""
        dealing = self._dealing_of(entry, keys, ranges, writes)
        need_no_ring(entry, self._nexts_with(entry, dealing))
        return dealing.number

    def _dealing_of(self, entry, keys, ranges, writes):
        """The dealing that an entry would leave if it committed now."""
        self._need_under_way(entry)
        if not are_keys(keys) or not are_ranges(ranges):
            raise BadSeen()
        if not are_writes(writes):
            raise BadWrites()
        number = self._last + 1 if len(writes) > 0 else None
        return Dealing(self._under_way[entry], number, keys, ranges, writes)

    def _nexts_with(self, entry, dealing):
        """Where ties lead if this dealing is committed, too."""
        found = {}
        for other, row in self._nexts.items():
            found[other] = list(row)
            if is_tied(self._dealings[other], dealing):
                found[other] = sorted(row + [entry])
        found[entry] = [other for other in sorted(self._dealings) if is_tied(dealing, self._dealings[other])]
        return found

    def gives_up(self, entry):
        """The entry is open no more, and was as if never."""
        self._need_under_way(entry)
        del self._under_way[entry]
        self._forget()

    def _need_under_way(self, entry):
        if not is_integer(entry) or entry not in self._under_way:
            raise NotOpen()

    def last(self):
        """The number of the last commit."""
        return self._last

    def open_entries(self):
        """The lot of the open entries."""
        return tuple(sorted(self._under_way))

    def remembered(self):
        """The lot of the committed entries that are still known."""
        return tuple(sorted(self._dealings))

    def copy(self):
        """A check that goes on apart."""
        other = Check(self._last)
        other._many = self._many
        other._under_way = dict(self._under_way)
        other._dealings = dict(self._dealings)
        other._nexts = {entry: list(row) for entry, row in self._nexts.items()}
        return other

    def _forget(self):
        """Keeps those to which ties lead from a commit that some open entry does not see."""
        came = self._ways_from(self._sources())
        self._dealings = {entry: dealing for entry, dealing in self._dealings.items() if entry in came}
        # where ties lead from what is kept is kept, too
        self._nexts = {entry: row for entry, row in self._nexts.items() if entry in came}

    def _sources(self):
        """The remembered entries that wrote behind the snapshot of an open entry, ascending."""
        if not self._under_way:
            return []
        least = min(list(self._under_way.values()))
        return [entry for entry in sorted(self._dealings) if is_behind(self._dealings[entry], least)]

    def _ways_from(self, sources):
        """From all entries to which ties lead from the sources to the one ahead on a way, None for a source."""
        came = {entry: None for entry in sources}
        todo = list(sources)
        while todo:
            entry = todo.pop()
            for other in self._nexts[entry]:
                if other not in came:
                    came[other] = entry
                    todo.append(other)
        return came

    def could_ring(self, entry):
        """A triple (open, keys, writes): with these an open entry would make a ring through a remembered one.

        The open entry has seen what the first one on a way of ties to the remembered one wrote
        behind its snapshot, so a tie leads there; and it writes what the remembered one wrote or
        has seen, so a tie leads back.
        """
        if not is_integer(entry) or entry not in self._dealings:
            raise NotRemembered()
        way = way_to(entry, self._ways_from(self._sources()))
        least = min(list(self._under_way.values()))
        late = min([number for number, snapshot in self._under_way.items() if snapshot == least])
        seen = written_keys(self._dealings[way[0]])[0]
        return (late, (seen,), ((self._touched_key(way), 0),))

    def _touched_key(self, way):
        """A key that the last entry on a way of ties wrote; of a looker one that it has seen of the entry ahead."""
        dealing = self._dealings[way[-1]]
        if dealing.number is not None:
            return written_keys(dealing)[0]
        return [key for key in written_keys(self._dealings[way[-2]]) if has_seen_key(dealing, key)][0]


def is_behind(dealing, snapshot):
    return dealing.number is not None and dealing.number > snapshot


def need_no_ring(entry, nexts):
    """Refused with the first of the shortest rings that begin with an entry.

    Those that are forgotten can be left aside: no ring goes through them.
    """
    ring = ring_from(entry, nexts)
    if ring is not None:
        raise Refused(ring)
