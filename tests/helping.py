"""What the tests share: a plain batch, things of all kinds, seeded draws."""

import random
import unittest

from wholeways.disk import Disk
from wholeways.errors import Ended, NoItems, NoNumber, NoPage, NoRoom, Refused, Stopped
from wholeways.judges import Dealing
from wholeways.kinds import is_items, is_within


def drawn(seed):
    """A source of draws that gives the same row each time."""
    return random.Random(seed)


def deep(many, kind=tuple):
    """An empty thing within a thing, so many of them."""
    thing = kind()
    for _ in range(many - 1):
        thing = kind([thing])
    return thing


def deep_dict(many):
    thing = {}
    for _ in range(many - 1):
        thing = {"a": thing}
    return thing


def odd_things():
    """Things of many kinds, none of which is a number, a key, a lot or a tuple of anything of use."""
    return [True, False, None, -1, "", "A", "aB", "a b", "a\n", "a~", "a1", "a" * 13, "a" * 20000, b"a", bytearray(b"a"),
            [], [0], ["a"], [("a", 1)], {}, {"a": 1}, {0: 1}, {("a", (0,)): []}, range(3), slice(0, 1), ..., object(),
            int, len, NotImplemented, iter([1]), memoryview(b"ab"), ("A",), (None,), (True,), (-1,), ("",), ((),), (b"a",),
            ("a", "a"), ("b", "a"), (1, 1), (2, 1), (1, "a"), ("a", 1, None), [[[]]], deep(40), deep(40, list),
            deep_dict(40), tuple([0] * 20000), tuple([()] * 20000), [deep(30)] * 600, Ended(), Refused((0, 1)),
            Disk(16), Dealing(0, None, (), (), ())]


def some_reach(draw, disk):
    """Any of what waits reaches the disk, of each block the eldest first; then the power fails."""
    disk.power(None)
    likely = draw.random()
    for block, many in disk.waiting().items():
        for _ in range(many):
            if draw.random() < likely:
                disk.reach(block)
            else:
                break
    disk.cut()


def stopped(call, *things):
    """Whether the power failed amid a call."""
    try:
        call(*things)
    except Stopped:
        return True
    return False


class PlainBatch:
    """A batch over pages in memory, as strict as the document is about what it is asked."""

    def __init__(self, many=600):
        self.many = many
        self.pages = {0: ("meta", -1, 1, 0, 0)}
        self.free = []
        self.high = 1
        self.top = 0
        self.taken = 0
        self.given = []

    def need(self, page):
        if not is_within(page, 0, self.high - 1):
            raise NoPage()

    def need_held(self, page):
        self.need(page)
        if page == 0 or page in self.free:
            raise NoPage()

    def get(self, page):
        self.need(page)
        return self.pages[page]

    def put(self, page, items):
        self.need_held(page)
        if not is_items(items, 1, 39) or not isinstance(items[0], str) or items[0] in ("free", "meta"):
            raise NoItems()
        self.pages[page] = items

    def take_page(self):
        if self.free:
            page = self.free.pop()
        elif self.high < self.many:
            page = self.high
            self.high += 1
        else:
            raise NoRoom()
        self.pages[page] = ("new",)
        self.taken += 1
        return page

    def give_page(self, page):
        self.need_held(page)
        self.pages[page] = ("free", self.free[-1] if self.free else -1)
        self.free.append(page)
        self.given.append(page)

    def root(self):
        return self.top

    def set_root(self, page):
        self.need(page)
        self.top = page

    def last(self):
        return 0

    def set_last(self, number):
        if not is_within(number, 0, 10 ** 30):
            raise NoNumber()

    def held(self):
        """The lot of the pages that were taken and not given back."""
        return tuple(page for page in range(1, self.high) if page not in self.free)

    def state(self):
        return dict(self.pages), list(self.free), self.high, self.top

    def twin(self):
        other = PlainBatch(self.many)
        other.pages = dict(self.pages)
        other.free = list(self.free)
        other.high = self.high
        other.top = self.top
        return other


class Case(unittest.TestCase):
    """Equality by kind, too: True is not 1, and a list is no tuple."""

    def same(self, found, told):
        self.assertEqual(repr(found), repr(told))
        self.assertEqual(found, told)

    def raises(self, kind, function, *things):
        with self.assertRaises(kind) as caught:
            function(*things)
        self.assertIs(caught.exception.__class__, kind)
        return caught.exception

    def raises_all(self, kind, function, things):
        """The function raises this error for each of the things, and nothing else."""
        for thing in things:
            with self.subTest(thing=repr(thing)[:60]):
                self.raises(kind, function, thing)
