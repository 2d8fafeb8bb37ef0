"""The tree, the versions and the vacuum over batches of pages, as they are over plain ones, and what is left behind."""

from unittest.mock import patch

from wholeways.errors import NoPage, NoRoom, StoreError, TooLarge
from wholeways.log import formatted
from wholeways.pages import Pages
from wholeways.tree import all_spots, depth, is_sound, pages_of, put, take
from wholeways.vacuum import sweep, takeable
from wholeways.versions import all_versions, dict_at, write_all

from tests import test_tree, test_vacuum, test_versions
from tests.helping import Case, PlainBatch, drawn

CALLED_UNTIL_DONE = 25


class PagedBatch(PlainBatch):
    """A batch of pages beside a plain one: both are asked the same, and must tell the same.

    Every so often the batch is done and another one goes on, which nobody who leads it may notice.
    """

    def __init__(self, many=560):
        super().__init__(many)
        blocks = max(many, 8) + 39
        self.paged = Pages(formatted(blocks, 38))
        # a disk has at least 7 pages; fewer are had by letting it hold that there are no more
        self.paged._many = many
        self.real = self.paged.batch()
        self.called = 0

    def both(self, name, *things):
        told = []
        for call in (getattr(self.real, name), getattr(super(), name)):
            try:
                told.append((call(*things), None))
            except StoreError as e:
                told.append((None, e))
        (found, raised), (plain, refused) = told
        assert found == plain and raised.__class__ is refused.__class__, (name, things, told)
        if raised is not None:
            raise raised
        return found

    def get(self, page):
        return self.both("get", page)

    def put(self, page, items):
        self.both("put", page, items)
        self.called += 1
        if self.called % CALLED_UNTIL_DONE == 0:
            self.go_on()

    def go_on(self):
        """Done, with some of it written out; then another batch."""
        self.real.done((self.called,))
        dirty = self.paged.dirty()
        for page in dirty[:len(dirty) // 2]:
            self.paged.write_out(page)
        self.real = self.paged.batch()

    def take_page(self):
        return self.both("take_page")

    def give_page(self, page):
        return self.both("give_page", page)

    def root(self):
        return self.both("root")

    def set_root(self, page):
        return self.both("set_root", page)


class Paged(Case):
    """Runs what stands in another file with batches of pages in place of the plain ones."""

    def setUp(self):
        for module in (test_tree, test_versions, test_vacuum):
            led = patch.object(module, "PlainBatch", PagedBatch)
            led.start()
            self.addCleanup(led.stop)
        super().setUp()


class TreeRows(Paged, test_tree.Rows):
    def test_a_large_one(self):
        """1500 spots need more pages than a disk of the test has; fewer are as deep."""
        batch, draw = test_tree.tree_of(1000), drawn(9)
        plain = {test_tree.spot_of(k): None if k % 5 == 0 else k for k in range(1000)}
        self.held_against(batch, plain)
        for spot in sorted(plain, key=lambda spot: draw.random())[:900]:
            take(batch, spot)
            del plain[spot]
        self.held_against(batch, plain)


class TreePages(Paged, test_tree.Pages):
    pass


class TreeAsking(Paged, test_tree.Asking):
    pass


class TreeWrong(Paged, test_tree.Wrong):
    pass


class VersionsWriting(Paged, test_versions.Writing):
    pass


class VersionsTaking(Paged, test_versions.Taking):
    pass


class VersionsWrong(Paged, test_versions.Wrong):
    pass


class VacuumSweeps(Paged, test_vacuum.Sweeps):
    pass


class Small(Case):
    """Small disks, till there is no room, with batches done and dropped between."""

    def drawn_changes_of(self, draw, batch, plain):
        """Some puts and takes in a batch; whether all had room."""
        for _ in range(draw.randrange(1, 12)):
            spot = test_tree.spot_of(draw.randrange(120))
            if spot in plain and draw.random() < 0.5:
                take(batch, spot)
                del plain[spot]
                continue
            try:
                put(batch, spot, draw.choice((None, 1, -5)))
            except NoRoom:
                return False
            plain[spot] = batch_mark(batch, spot)
        return True

    def test_trees(self):
        for seed in range(25):
            draw = drawn(seed)
            blocks = draw.choice((20, 24, 30))
            pages, kept, full = Pages(formatted(blocks, 12)), {}, 0
            for _ in range(60):
                batch, plain = pages.batch(), dict(kept)
                is_room = self.drawn_changes_of(draw, batch, plain)
                full += not is_room
                held = [pages.held(page) for page in range(pages.high())]
                if is_room and draw.random() < 0.8:
                    try:
                        batch.done(())
                        kept = plain
                    except TooLarge:
                        batch.dropped()
                elif draw.random() < 0.5:
                    batch.dropped()
                if kept is not plain:
                    self.same([pages.held(page) for page in range(pages.high())], held)
                batch = pages.batch()
                self.same(is_sound(batch), True)
                self.same(all_spots(batch), [(*spot, kept[spot]) for spot in sorted(kept)])
                self.same(len(pages_of(batch)) + 1, pages.in_use())
                if draw.random() < 0.1:
                    pages.checkpoint()
                if draw.random() < 0.1:
                    pages.force(pages.record()) if pages.notes() else None
                    pages = Pages(pages._disk)
            self.emptied(pages, kept)
            if blocks == 20:
                self.assertGreater(full, 0)

    def emptied(self, pages, kept):
        batch = pages.batch()
        for spot in sorted(kept):
            take(batch, spot)
        self.same((batch.root(), depth(batch), all_spots(batch), pages_of(batch)), (0, 0, [], ()))
        batch.done(())
        self.same((pages.in_use(), pages.held(0)[3]), (1, 0))

    def test_no_room_just_where_no_page_is_left(self):
        pages = Pages(formatted(20, 12))
        self.assertEqual(pages.many(), 7)
        batch, k = pages.batch(), 0
        with self.assertRaises(NoRoom):
            while True:
                put(batch, test_tree.spot_of(k), k)
                k += 1
        # six pages: an inner one and five leaves, of which the last one is full
        self.same(k, 4 * 4 + 8)
        self.same(all_spots(pages.batch()), [])
        self.same((pages.in_use(), pages.high()), (1, 1))

    def test_versions_and_sweeps(self):
        """What a batch that is done has taken is taken; what a dropped one took is there again."""
        for seed in range(10):
            draw, pages = drawn(seed), Pages(formatted(200, 60))
            for commit in range(1, 14):
                batch = pages.batch()
                write_all(batch, commit, test_versions.drawn_changes(draw))
                batch.set_last(commit)
                batch.done(("commit", commit))
            lot = tuple(s for s in range(14) if draw.random() < 0.2)
            told = [dict_at(pages.batch(), s) for s in (*lot, 13)]
            while takeable(pages.batch(), lot, 13):
                rows = all_versions(pages.batch())
                batch = pages.batch()
                many = sweep(batch, lot, 13, 5)
                self.same(len(all_versions(batch)), len(rows) - many)
                self.same([dict_at(batch, s) for s in (*lot, 13)], told)
                if draw.random() < 0.3:
                    self.same(all_versions(pages.batch()), rows)
                else:
                    batch.done(("sweep",))
                    self.same(len(all_versions(pages.batch())), len(rows) - many)
                self.same(is_sound(pages.batch()), True)
            self.same(len(pages_of(pages.batch())) + 1, pages.in_use())

    def test_pages_that_are_none_are_no_tree(self):
        pages = Pages(formatted(20, 12))
        batch = pages.batch()
        page = batch.take_page()
        batch.put(page, ("inner", 6, "a", 1, 7))
        batch.set_root(page)
        self.raises(NoPage, batch.get, 6)
        self.same(is_sound(batch), False)
        batch.put(page, ("leaf", "a", 1, 1, 5))
        self.same(is_sound(batch), True)
        batch.give_page(page)
        self.same(is_sound(batch), False)


def batch_mark(batch, spot):
    return [mark for key, number, mark in all_spots(batch) if (key, number) == spot][0]
