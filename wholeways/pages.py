"""Pages of a disk, changed by batches that come all or not at all, each of them one record of the log."""

from wholeways.errors import BadDisk, NoItems, NoNote, NoNumber, NoPage, NoRoom, Over, TooLarge
from wholeways.kinds import GREATEST_ITEM, is_items, is_number, is_within
from wholeways.log import MOST_RECORD, Log, master_of, pieces_of, read_prefix

META = "meta"
FREE = "free"
NEW = ("new",)
META_PAGE = 0
NO_FREE = -1
MOST_ITEMS = 39
MOST_NOTE = 40


def record_of(note, changes):
    """The record of a batch: its note, then each page that it tells with its items."""
    items = [len(note)]
    items.extend(note)
    for page in sorted(changes):
        items.extend([page, len(changes[page])])
        items.extend(changes[page])
    return tuple(items)


def note_of(record):
    return record[1:1 + record[0]]


def changes_of(record):
    """The dict from the pages that a batch's record tells to their items."""
    told = {}
    at = 1 + record[0]
    while at < len(record):
        begin = at + 2
        at = begin + record[at + 1]
        told[record[begin - 2]] = record[begin:at]
    return told


def last_told(disk):
    """The dict from the pages that an opening finds told by records to the last such number and its items."""
    told = {}
    for number, record, _ in read_prefix(disk, master_of(disk)[1] + 1):
        for page, items in changes_of(record).items():
            told[page] = (number, items)
    return told


def is_meta(items, many):
    """Whether items are those of the meta page where there are so many pages."""
    if len(items) != 5 or items[0] != META or not is_within(items[2], 1, many):
        return False
    _, head, high, root, last = items
    if head != NO_FREE and not is_within(head, 1, high - 1):
        return False
    return is_within(root, 0, high - 1) and is_number(last)


def is_free(items):
    return items[:1] == (FREE,)


class Pages:
    """Holds in memory what the last batch that was done has left of each page."""

    def __init__(self, disk):
        first = master_of(disk)[2] + 1
        told = last_told(disk)
        lying = [disk.read(block) for block in range(first, disk.blocks())]
        meta = told[META_PAGE][1] if META_PAGE in told else lying[META_PAGE][1:]
        # judged ahead of opening the log, as that writes to the disk
        if not is_meta(meta, len(lying)):
            raise BadDisk()
        self._log = Log(disk)
        self._disk = disk
        self._first = first
        self._many = len(lying)
        self._held = {page: lying[page][1:] for page in range(meta[2])}
        # from the dirty pages to the numbers of the records that told them last
        self._dirty = {}
        for page, (number, items) in told.items():
            self._held[page] = items
            if lying[page][:1] != (number,):
                self._dirty[page] = number
        self._batch = None

    def batch(self):
        """A new batch; an elder one is dropped by it."""
        if self._batch is not None:
            self._batch.ended()
        self._batch = Batch(self)
        return self._batch

    def held(self, page):
        """The items of a page by all batches that are done."""
        self._need_page(page)
        return self._held[page]

    def _need_page(self, page):
        if not is_within(page, 0, self.high() - 1):
            raise NoPage()

    def dirty(self):
        """The lot of the dirty pages."""
        return tuple(sorted(self._dirty))

    def write_out(self, page):
        """A dirty page is written to its block, behind its record; returns whether it was dirty."""
        self._need_page(page)
        if page not in self._dirty:
            return False
        number = self._dirty[page]
        # a page ahead of its record could show what a cut has taken from the log
        self._log.force(number)
        self._disk.write(self._first + page, (number,) + self._held[page])
        del self._dirty[page]
        return True

    def force(self, number):
        """The log is forced as far as a record."""
        self._log.force(number)

    def record(self):
        """The number of the last record."""
        return self._log.last()

    def forced(self):
        """The number of the last record of those that surely lie on the disk."""
        return self._log.forced()

    def room(self):
        """How many further blocks of the log can be written."""
        return self._log.room()

    def notes(self):
        """The list of the pairs (number, note) of the log's records."""
        return [(number, note_of(record)) for number, record in self._log.records()]

    def checkpoint(self):
        """All lies in the pages on the disk, and the log begins anew behind its last record."""
        if self.forced() < self.record():
            self.force(self.record())
        for page in self.dirty():
            self.write_out(page)
        self._disk.force(tuple(range(self._first, self._disk.blocks())))
        self._log.begin_at(self.record() + 1)

    def in_use(self):
        """How many pages below high are not free."""
        return len([page for page in range(self.high()) if not is_free(self._held[page])])

    def high(self):
        """Pages from this one on were never taken."""
        return self._held[META_PAGE][2]

    def many(self):
        """How many pages the disk has."""
        return self._many

    def take_in(self, note, changes):
        """A batch's record is appended, and the pages have its items: the number of the record."""
        record = record_of(note, changes)
        blocks = len(pieces_of(record))
        if len(record) > MOST_RECORD or blocks > self._log.ring_size():
            raise TooLarge()
        if blocks > self.room():
            self.checkpoint()
        number = self._log.append(record)
        for page, items in changes.items():
            self._held[page] = items
            self._dirty[page] = number
        return number


class Batch:
    """A lot of changes over the pages, that nobody else sees until it is done."""

    def __init__(self, pages):
        self._pages = pages
        self._is_over = False
        self._changed = {}
        _, self._head, self._high, self._root, self._last = pages.held(META_PAGE)

    def get(self, page):
        """The items as the batch has them."""
        self._need_under_way()
        self._need_page(page)
        return self._items(page)

    def put(self, page, items):
        """The page has these items now."""
        self._need_under_way()
        self._need_in_use(page)
        if not is_items(items, 1, MOST_ITEMS) or not isinstance(items[0], str) or items[0] in (FREE, META):
            raise NoItems()
        self._changed[page] = items

    def take_page(self):
        """A page that is free from now on no more."""
        self._need_under_way()
        page = self._head
        if page != NO_FREE:
            self._head = self._items(page)[1]
        elif self._high < self._pages.many():
            page = self._high
            self._high += 1
        else:
            raise NoRoom()
        self._changed[page] = NEW
        return page

    def give_page(self, page):
        """The page is the first free one now."""
        self._need_under_way()
        self._need_in_use(page)
        self._changed[page] = (FREE, self._head)
        self._head = page

    def root(self):
        """The root that the meta page tells, 0 for none."""
        self._need_under_way()
        return self._root

    def last(self):
        """The number of the last commit that the meta page tells."""
        self._need_under_way()
        return self._last

    def set_root(self, page):
        """The meta page tells this root now."""
        self._need_under_way()
        self._need_page(page)
        self._root = page

    def set_last(self, number):
        """The meta page tells this number of the last commit now."""
        self._need_under_way()
        if not is_within(number, 0, GREATEST_ITEM):
            raise NoNumber()
        self._last = number

    def changed(self):
        """The lot of the pages that the batch changes."""
        self._need_under_way()
        pages = list(self._changed)
        if self._meta() != self._pages.held(META_PAGE):
            pages.append(META_PAGE)
        return tuple(sorted(pages))

    def done(self, note):
        """The batch is one record of the log, not forced: its number."""
        self._need_under_way()
        if not is_items(note, 0, MOST_NOTE):
            raise NoNote()
        number = self._pages.take_in(note, {page: self._items(page) for page in self.changed()})
        self.ended()
        return number

    def dropped(self):
        """The batch is forgotten."""
        self._need_under_way()
        self.ended()

    def ended(self):
        """Whatever it was, it is over."""
        self._is_over = True

    def _meta(self):
        return (META, self._head, self._high, self._root, self._last)

    def _items(self, page):
        if page == META_PAGE:
            return self._meta()
        if page in self._changed:
            return self._changed[page]
        return self._pages.held(page)

    def _need_under_way(self):
        if self._is_over:
            raise Over()

    def _need_page(self, page):
        if not is_within(page, 0, self._high - 1):
            raise NoPage()

    def _need_in_use(self, page):
        self._need_page(page)
        if page == META_PAGE or is_free(self._items(page)):
            raise NoPage()
