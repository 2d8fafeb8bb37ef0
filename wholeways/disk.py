"""A disk of blocks: what is written waits in a cache until it reaches the disk."""

from wholeways.errors import BadDisk, NoBlock, NoContent, NoNumber, NothingWaits, Stopped
from wholeways.kinds import is_items, is_lot, is_within

LEAST_BLOCKS = 16
MOST_BLOCKS = 600
MOST_ITEMS = 40
MOST_POWER = 10 ** 6


class Disk:
    """Blocks numbered from 0, that all hold () at first."""

    def __init__(self, blocks):
        if not is_within(blocks, LEAST_BLOCKS, MOST_BLOCKS):
            raise BadDisk()
        self._lies = [() for _ in range(blocks)]
        self._waits = {}
        self._power = None
        self._reached = 0

    def blocks(self):
        """How many blocks there are."""
        return len(self._lies)

    def write(self, block, content):
        """The content waits behind all that wait for this block."""
        self._need_block(block)
        if not is_items(content, 0, MOST_ITEMS):
            raise NoContent()
        self._waits.setdefault(block, []).append(content)

    def read(self, block):
        """The content last written, or on the disk if nothing waits for it."""
        self._need_block(block)
        if block in self._waits:
            return self._waits[block][-1]
        return self._lies[block]

    def reach(self, block):
        """The eldest write that waits for the block reaches the disk."""
        self._need_block(block)
        if block not in self._waits:
            raise NothingWaits()
        self._reach_one(block)

    def force(self, lot):
        """All that waits for the blocks of a lot reaches the disk, block by block, ascending."""
        if not is_lot(lot) or (len(lot) > 0 and lot[-1] >= len(self._lies)):
            raise NoBlock()
        for block in lot:
            while block in self._waits:
                self._reach_one(block)

    def calm(self):
        """All that waits reaches the disk, block by block, ascending."""
        self.force(tuple(sorted(self._waits)))

    def power(self, many):
        """From now on so many writes can reach the disk, any number for None."""
        if many is not None and not is_within(many, 0, MOST_POWER):
            raise NoNumber()
        self._power = many

    def cut(self):
        """All that waits is lost; then power is there for any number."""
        self._waits = {}
        self._power = None

    def waiting(self):
        """The dict from blocks for which something waits to how much."""
        return {block: len(self._waits[block]) for block in sorted(self._waits)}

    def lying(self, block):
        """The content on the disk."""
        self._need_block(block)
        return self._lies[block]

    def reached(self):
        """How many writes have reached the disk."""
        return self._reached

    def copy(self):
        """Another disk with the same contents lying there."""
        other = Disk(len(self._lies))
        other._lies = list(self._lies)
        return other

    def _need_block(self, block):
        if not is_within(block, 0, len(self._lies) - 1):
            raise NoBlock()

    def _reach_one(self, block):
        if self._power is not None:
            if self._power == 0:
                raise Stopped()
            self._power -= 1
        row = self._waits[block]
        self._lies[block] = row.pop(0)
        self._reached += 1
        if not row:
            del self._waits[block]
