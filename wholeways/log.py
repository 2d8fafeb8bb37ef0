"""A log in the first blocks of a disk: of its records a cut leaves a prefix."""

from wholeways.disk import Disk
from wholeways.errors import BadDisk, LogFull, NoNumber, NoRecord
from wholeways.kinds import is_items, is_number, is_within

MASTER = "master"
LEAST_RING = 4
OTHER_BLOCKS = 8
PIECE = 36
HEAD = 4
MOST_RECORD = 6000


def formatted(blocks, ring):
    """A disk with the master of an empty log and the meta page of empty pages."""
    disk = Disk(blocks)
    if not is_ring_size(ring, blocks):
        raise BadDisk()
    disk.write(0, (MASTER, 0, ring, 0, 0, 0))
    disk.write(ring + 1, (-1, "meta", -1, 1, 0, 0))
    disk.calm()
    return disk


def is_ring_size(ring, blocks):
    return is_within(ring, LEAST_RING, blocks - OTHER_BLOCKS)


def is_master(content, blocks):
    """Whether a content is a master of a disk of so many blocks."""
    if len(content) != 6 or content[0] != MASTER:
        return False
    return all([is_number(item) for item in content[1:]]) and is_ring_size(content[2], blocks)


def pieces_of(record):
    """A record's items, cut into pieces."""
    return [record[k:k + PIECE] for k in range(0, len(record), PIECE)]


def master_of(disk):
    """What is read in block 0: BadDisk for what is no disk, and for what is no master."""
    if not isinstance(disk, Disk) or not is_master(disk.read(0), disk.blocks()):
        raise BadDisk()
    return disk.read(0)


def counted(disk, latest):
    """The contents of the blocks that count, by what is read on the disk, from the start on that the master tells.

    latest is the epoch of the opening for which is asked.
    """
    master = master_of(disk)
    found = []
    for k in range(master[3], master[3] + master[2]):
        content = disk.read(1 + k % master[2])
        if not is_piece(content, k) or content[1] > latest:
            return found
        if not (goes_on(found[-1], content) if found else begins(master, content)):
            return found
        found.append(content)
    return found


def is_piece(content, k):
    """Whether a content is a piece that was written as the block of this running number."""
    return len(content) > HEAD and all([is_number(item) for item in content[:HEAD]]) and content[0] == k


def begins(master, content):
    """Whether a piece can be the first one of the log."""
    return content[2] == master[4] and content[1] >= master[5]


def goes_on(ahead, content):
    """Whether a piece can stand behind the piece ahead.

    Of one record all pieces were written in one epoch; a later record was written in no earlier
    one. So what an earlier life left behind the last block that was read is not taken for new.
    """
    _, epoch, record, left = content[:HEAD]
    if ahead[3] == 0:
        return record == ahead[2] + 1 and epoch >= ahead[1]
    return record == ahead[2] and left == ahead[3] - 1 and epoch == ahead[1]


def read_prefix(disk, latest):
    """Of each record that the opening of this epoch reads the triple (number, record, epoch)."""
    found = []
    items = []
    for content in counted(disk, latest):
        items.extend(content[HEAD:])
        if content[3] == 0:
            found.append((content[2], tuple(items), content[1]))
            items = []
    return found


class Log:
    """Records with running numbers, each in blocks of the ring one behind the other."""

    def __init__(self, disk):
        _, epoch, ring, k, number, first = master_of(disk)
        disk.calm()
        disk.write(0, (MASTER, epoch + 1, ring, k, number, first))
        disk.force((0,))
        self._disk = disk
        self._epoch = epoch + 1
        self._ring = ring
        self._begin = number
        # of each record from the start on: its items, the running number of its first block, its epoch
        self._kept = []
        self._begin_k = k
        self._next_k = k
        for _, record, written in read_prefix(disk, epoch + 1):
            self._keep(record, written)
        self._forced = self.last()

    def _keep(self, record, epoch):
        self._kept.append((record, self._next_k, epoch))
        self._next_k += len(pieces_of(record))

    def append(self, thing):
        """Writes a record's blocks, which wait then, and returns its number."""
        if not is_items(thing, 1, MOST_RECORD):
            raise NoRecord()
        pieces = pieces_of(thing)
        if len(pieces) > self.room():
            raise LogFull()
        number = self.last() + 1
        for place, piece in enumerate(pieces):
            k = self._next_k + place
            self._disk.write(self._block(k), (k, self._epoch, number, len(pieces) - 1 - place) + piece)
        self._keep(thing, self._epoch)
        return number

    def _block(self, k):
        return 1 + k % self._ring

    def force(self, number):
        """All blocks of records up to this one, that are not forced, are forced."""
        if not is_within(number, self._begin, self.last()):
            raise NoNumber()
        if number <= self._forced:
            return
        first = self._first_k(self._forced + 1)
        self._disk.force(tuple(sorted([self._block(k) for k in range(first, self._first_k(number + 1))])))
        self._forced = number

    def _first_k(self, number):
        """The running number of the first block of a record, or of the next one."""
        if number > self.last():
            return self._next_k
        return self._kept[number - self._begin][1]

    def forced(self):
        """The number of the last record of those that surely lie on the disk, with all ahead of them."""
        return self._forced

    def last(self):
        """The number of the last record, one less than the start's if there is none."""
        return self._begin + len(self._kept) - 1

    def records(self):
        """The list of the pairs (number, record) from the start on."""
        return [(self._begin + place, row[0]) for place, row in enumerate(self._kept)]

    def room(self):
        """How many further blocks can be written."""
        return self._ring - (self._next_k - self._begin_k)

    def ring_size(self):
        """How many blocks the ring has."""
        return self._ring

    def begin_at(self, number):
        """The log starts at this record from now on; those ahead of it are forced, then forgotten."""
        if not is_within(number, self._begin, self.last() + 1):
            raise NoNumber()
        if number > self._begin:
            self.force(number - 1)
        first_k = self._first_k(number)
        kept = self._kept[number - self._begin:]
        first = kept[0][2] if kept else self._epoch
        self._disk.write(0, (MASTER, self._epoch, self._ring, first_k, number, first))
        self._disk.force((0,))
        self._kept = kept
        self._begin = number
        self._begin_k = first_k
