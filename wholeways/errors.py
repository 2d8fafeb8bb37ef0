"""The errors of this package: each of them derives directly from StoreError."""


class StoreError(ValueError):
    """What all the others are; an error without a field is made with nothing."""

    def __init__(self):
        ValueError.__init__(self)


class Ended(StoreError):
    """A transaction is at its end."""


class BadDisk(StoreError):
    """No disk, or none of this kind."""


class NoBlock(StoreError):
    """No block of the disk, or no lot of blocks."""


class NoContent(StoreError):
    """No content of a block."""


class NothingWaits(StoreError):
    """Nothing waits for the block."""


class Stopped(StoreError):
    """The power ends here."""


class NoRecord(StoreError):
    """No record of a log."""


class LogFull(StoreError):
    """The ring of the log has too few blocks left."""


class NoPage(StoreError):
    """No page that is meant here."""


class NoItems(StoreError):
    """No items of a page."""


class NoRoom(StoreError):
    """There is no further page."""


class NoNote(StoreError):
    """No note of a batch."""


class TooLarge(StoreError):
    """The batch is too large for a record."""


class Over(StoreError):
    """The batch is over."""


class NoSpot(StoreError):
    """No spot of a tree."""


class NoMark(StoreError):
    """No mark."""


class NotThere(StoreError):
    """There is nothing to take."""


class NoCommit(StoreError):
    """No number of a commit."""


class NoChanges(StoreError):
    """No dict from keys to marks."""


class NoSnapshot(StoreError):
    """No snapshot that is meant here."""


class NoKey(StoreError):
    """No key."""


class NoWorth(StoreError):
    """No worth."""


class NoNumber(StoreError):
    """No number that is meant here."""


class NotOpen(StoreError):
    """Nothing of this number is under way."""


class BadSeen(StoreError):
    """No keys, or ranges, that can have been seen."""


class BadWrites(StoreError):
    """No writes."""


class NotRemembered(StoreError):
    """No entry that is remembered."""


class NoIndex(StoreError):
    """No index of the history."""


class NoOrder(StoreError):
    """No order of the history."""


class NotSerial(StoreError):
    """The order is not serial."""


class NoSnapshots(StoreError):
    """No lot of open snapshots."""


class NoVersion(StoreError):
    """No commit of these versions."""


class NoLine(StoreError):
    """No line of the desk."""


class InUse(StoreError):
    """A transaction of this name is under way."""


class NoLines(StoreError):
    """No list or tuple of lines."""


class NotWhole(StoreError):
    """The pairs are those of no graph."""


class NoNode(StoreError):
    """No name of a node."""


class NodeThere(StoreError):
    """The node is there."""


class NodeTied(StoreError):
    """Ties lead from the node, or to it."""


class NoTieWord(StoreError):
    """No word of a tie."""


class NoWeight(StoreError):
    """No weight."""


class TieThere(StoreError):
    """The tie is there."""


class NotATie(StoreError):
    """The tie is not there."""


class NoPlan(StoreError):
    """No plan."""


class NoPath(StoreError):
    """No path."""


class NoExpression(StoreError):
    """No expression."""


class NoPlace(StoreError):
    """No place of the product."""


class NoQuestion(StoreError):
    """No question."""


class NoDeed(StoreError):
    """No order of a session."""


class NotKept(StoreError):
    """No answer is kept."""


class Refused(StoreError):
    """The commit would make a ring of ties."""

    def __init__(self, ring):
        self.ring = ring


class BadDealing(StoreError):
    """A part of a dealing is wrong."""

    def __init__(self, part):
        self.part = part


class NoPlay(StoreError):
    """A part of a play is wrong."""

    def __init__(self, part):
        self.part = part


class BadGraph(StoreError):
    """A part of a graph is wrong."""

    def __init__(self, part):
        self.part = part


class BadHistory(StoreError):
    """The dealing of this index spoils the history, -1 for no tuple, or a longer one."""

    def __init__(self, index):
        self.index = index


class NoVersions(StoreError):
    """The version of this index is wrong, -1 for no list or tuple."""

    def __init__(self, index):
        self.index = index


class TooMany(StoreError):
    """There are more than are let."""

    def __init__(self, most):
        self.most = most


class NoName(StoreError):
    """Nothing of this name is under way."""

    def __init__(self, name):
        self.name = name


class NotANode(StoreError):
    """No node of this name is there."""

    def __init__(self, name):
        self.name = name


class BadSigns(StoreError):
    """The sign at this place can not stand there."""

    def __init__(self, at):
        self.at = at
