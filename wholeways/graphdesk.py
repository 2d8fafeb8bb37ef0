"""A desk of lines that leads a store of graphs with kept answers, and tells a string to each line."""

from wholeways.deeds import OF_ONE, OF_STORE
from wholeways.errors import InUse, NoLines, NoName, StoreError
from wholeways.kept import Kept
from wholeways.lines import read_line
from wholeways.store import Store, new_store

DONE = "ok"
ENDING = ("abort", "commit", "soon")


class GraphDesk:
    """Knows its transactions by their names."""

    def __init__(self, blocks, ring):
        self._store = new_store(blocks, ring)
        self._kept = Kept(self._store)
        self._numbers = {}

    def tell(self, line):
        """Does one line, and tells a string."""
        word, things = read_line(line)
        if word == "begin":
            return self._begin_one(things[0])
        if word == "cut":
            return self._cut()
        if word in OF_STORE:
            action = OF_STORE[word]
            return action(self._kept, self._store, *things)
        return self._tell_of(word, things[0], things[1:])

    def _begin_one(self, name):
        if name in self._numbers:
            raise InUse()
        self._numbers[name] = self._store.begin()
        return DONE

    def _cut(self):
        """What has not reached the disk is lost, with all transactions under way."""
        disk = self._store.disk()
        disk.cut()
        self._store = Store(disk)
        self._kept = Kept(self._store)
        self._numbers = {}
        return DONE

    def _tell_of(self, word, name, things):
        """Does a line of a transaction, which is under way no more behind one that ends it."""
        if name not in self._numbers:
            raise NoName(name)
        action = OF_ONE[word]
        told = action(self._kept, self._store, self._numbers[name], *things)
        if word in ENDING:
            del self._numbers[name]
        return told


def graph_tale(blocks, ring, lines):
    """The list of what a new desk tells to lines, an error as the name of its class in parentheses."""
    desk = GraphDesk(blocks, ring)
    if not isinstance(lines, (list, tuple)):
        raise NoLines()
    return [told_or_error(desk, line) for line in lines]


def told_or_error(desk, line):
    try:
        return desk.tell(line)
    except StoreError as e:
        return "(" + e.__class__.__name__ + ")"
