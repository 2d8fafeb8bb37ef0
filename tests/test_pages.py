"""Promises 3.1 to 3.4: pages, and batches of changes to them that come all or not at all."""

from wholeways.disk import Disk
from wholeways.errors import BadDisk, NoItems, NoNote, NoNumber, NoPage, NoRoom, Over, Stopped, StoreError, TooLarge
from wholeways.log import Log, formatted
from wholeways.pages import Pages

from tests.helping import Case, deep, drawn, odd_things, some_reach, stopped

TOP = 10 ** 30
NOT_PAGES = [thing for thing in odd_things()] + [TOP, 10 ** 59, "1", (1,), [1], 1000]


def is_plain_row(thing, least, most):
    """Whether a thing is a tuple of so many items, by the words of 1.1."""
    if not isinstance(thing, tuple) or not least <= len(thing) <= most or not all(type(item) in (int, str) for item in thing):
        return False
    return all(abs(item) <= TOP if isinstance(item, int) else len(item) <= 12 and not item.strip("abcdefghijklmnopqrstuvwxyz")
               for item in thing)


WRONG_ITEMS = odd_things() + [(), (1,), (1, "a"), ("free",), ("meta",), ("free", 1), ("meta", -1, 1, 0, 0), ["leaf", 1], "leaf", ("leaf", True),
                              ("leaf", None), ("leaf", TOP + 1), ("leaf", -TOP - 1), ("leaf", "A"), ("leaf", "a" * 13), ("A",), ("leaf", b"a"),
                              ("leaf", ()), ("a" * 13,), ("leaf",) + (0,) * 39, {"leaf": 1}, ("leaf", deep(38))]
WRONG_ITEMS = [thing for thing in WRONG_ITEMS if not is_plain_row(thing, 1, 39) or thing[0] in ("free", "meta") or isinstance(thing[0], int)]
WRONG_NOTES = odd_things() + [["a"], "a", (True,), (None,), ("A",), (TOP + 1,), (-TOP - 1,), (0,) * 41, ("a" * 13,), (b"a",), ((),), {"a": 1}]
WRONG_NOTES = [thing for thing in WRONG_NOTES if not is_plain_row(thing, 0, 40)]


def fresh(blocks=24, ring=8):
    return Pages(formatted(blocks, ring))


class Book:
    """What 3.3 says of a batch over plain books: the items of all pages below high, the meta page's among them."""

    def __init__(self, many, items):
        self.many = many
        self.ahead = items
        self.items = dict(items)
        self.touched = set()

    def meta(self, place, thing=None):
        row = list(self.items[0])
        if thing is not None:
            row[place] = thing
            self.items[0] = tuple(row)
        return row[place]

    def is_page(self, page):
        return type(page) is int and 0 <= page < self.meta(2)

    def get(self, page):
        if not self.is_page(page):
            raise NoPage()
        return self.items[page]

    def need_used(self, page):
        if not self.is_page(page) or page == 0 or self.items[page][:1] == ("free",):
            raise NoPage()

    def put(self, page, items):
        self.need_used(page)
        if not is_plain_row(items, 1, 39) or isinstance(items[0], int) or items[0] in ("free", "meta"):
            raise NoItems()
        self.items[page] = items
        self.touched.add(page)

    def take_page(self):
        page = self.meta(1)
        if page >= 0:
            self.meta(1, self.items[page][1])
        elif self.meta(2) < self.many:
            page = self.meta(2, self.meta(2))
            self.meta(2, page + 1)
        else:
            raise NoRoom()
        self.items[page] = ("new",)
        self.touched.add(page)
        return page

    def give_page(self, page):
        self.need_used(page)
        self.items[page] = ("free", self.meta(1))
        self.meta(1, page)
        self.touched.add(page)

    def root(self):
        return self.meta(3)

    def last(self):
        return self.meta(4)

    def set_root(self, page):
        if not self.is_page(page):
            raise NoPage()
        self.meta(3, page)

    def set_last(self, number):
        if type(number) is not int or not 0 <= number <= TOP:
            raise NoNumber()
        self.meta(4, number)

    def changed(self):
        return tuple(sorted(self.touched | ({0} if self.items[0] != self.ahead[0] else set())))

    def record(self, note):
        row = [len(note), *note]
        for page in self.changed():
            row += [page, len(self.items[page]), *self.items[page]]
        return tuple(row)


NAMES = ("get", "put", "take_page", "give_page", "set_root", "set_last", "root", "last", "changed")


def drawn_call(draw, book):
    """A method of a batch with arguments, right ones more often than wrong ones."""
    name = draw.choice(NAMES + ("put", "take_page", "take_page", "give_page", "put"))
    page = draw.choice([draw.randrange(book.meta(2) + 2), draw.randrange(book.meta(2)), 0, -1, True, "a", None, 10 ** 40])
    if draw.random() < 0.6:
        page = draw.randrange(book.meta(2))
    items = tuple(draw.choice(("leaf", "", "x", 5, -TOP, 0)) for _ in range(draw.choice((1, 3, 20, 39, 40))))
    if draw.random() < 0.7:
        items = ("leaf", *items)[:39]
    if name == "put":
        return name, (page, draw.choice((items, items, items, items, items, draw.choice(WRONG_ITEMS))))
    if name == "set_last":
        return name, (draw.choice((0, 5, draw.randrange(99), TOP, TOP + 1, -1, True, "a")),)
    if name in ("get", "give_page", "set_root"):
        return name, (page,)
    return name, ()


def told(thing, name, things):
    """What a method returns, or the class of what it raises."""
    method = getattr(thing, name)
    try:
        return method(*things)
    except StoreError as e:
        return e.__class__


class Batches(Case):
    def test_the_example(self):
        p = Pages(formatted(24, 8))
        b = p.batch()
        found = (b.take_page(), b.put(1, ("leaf", 5)), b.done(("note",)), p.held(1), p.dirty(), p.notes())
        self.same(found, (1, None, 0, ("leaf", 5), (0, 1), [(0, ("note",))]))

    def test_against_plain_books(self):
        for seed in range(40):
            draw = drawn(seed)
            blocks, ring = draw.choice(((16, 4), (16, 8), (24, 8), (40, 20), (60, 12)))
            pages, books, rows = fresh(blocks, ring), {0: ("meta", -1, 1, 0, 0)}, []
            for _ in range(25):
                book = Book(blocks - ring - 1, books)
                batch = pages.batch()
                for _ in range(draw.randrange(14)):
                    name, things = drawn_call(draw, book)
                    self.same(told(batch, name, things), told(book, name, things))
                    self.books_held(pages, books)
                    self.batch_held(batch, book)
                books = self.ended(draw, pages, batch, book, books, rows)
                self.books_held(pages, books)

    def batch_held(self, batch, book):
        self.same([batch.get(page) for page in range(book.meta(2))], [book.items[page] for page in range(book.meta(2))])
        self.same((batch.changed(), batch.root(), batch.last()), (book.changed(), book.root(), book.last()))
        self.raises(NoPage, batch.get, book.meta(2))

    def books_held(self, pages, books):
        high = books[0][2]
        self.same([pages.held(page) for page in range(high)], [books[page] for page in range(high)])
        self.raises(NoPage, pages.held, high)
        self.same((pages.high(), pages.in_use()), (high, len([page for page in books if books[page][0] != "free"])))

    def ended(self, draw, pages, batch, book, books, rows):
        """The books behind: the batch is done, dropped, or left to the next one."""
        way = draw.choice(("done", "done", "done", "dropped", "left"))
        if way == "dropped":
            self.same(batch.dropped(), None)
        if way != "done":
            return books
        note = tuple(draw.choice((1, "a", -TOP, "")) for _ in range(draw.choice((0, 1, 1, 40))))
        record, dirty = book.record(note), pages.dirty()
        if (len(record) + 35) // 36 > pages._log.ring_size():
            self.raises(TooLarge, batch.done, note)
            self.batch_held(batch, book)
            return books
        is_room = (len(record) + 35) // 36 <= pages.room()
        rows.append((len(rows), record))
        self.same(batch.done(note), len(rows) - 1)
        self.same(pages.dirty(), tuple(sorted({*(dirty if is_room else ()), *book.changed()})))
        self.same(pages._log.records(), rows[-len(pages.notes()):])
        self.same(pages.notes(), [(number, row[1:1 + row[0]]) for number, row in rows[-len(pages.notes()):]])
        self.same(pages.record(), len(rows) - 1)
        return book.items

    def test_pages_are_taken_last_given_first(self):
        batch = fresh().batch()
        self.same([batch.take_page() for _ in range(5)], [1, 2, 3, 4, 5])
        for page in (2, 5, 1):
            self.same(batch.give_page(page), None)
        self.same((batch.get(1), batch.get(5), batch.get(2)), (("free", 5), ("free", 2), ("free", -1)))
        self.same(batch.get(0), ("meta", 1, 6, 0, 0))
        self.same([batch.take_page() for _ in range(4)], [1, 5, 2, 6])
        self.same((batch.get(1), batch.get(6), batch.get(0)), (("new",), ("new",), ("meta", -1, 7, 0, 0)))

    def test_free_pages_wait_for_later_batches(self):
        pages = fresh()
        batch = pages.batch()
        batch.take_page(), batch.take_page(), batch.give_page(1)
        batch.done(())
        self.same((pages.in_use(), pages.high(), pages.held(1)), (2, 3, ("free", -1)))
        batch = pages.batch()
        self.same((batch.take_page(), batch.take_page(), batch.changed()), (1, 3, (0, 1, 3)))

    def test_no_room_just_where_there_is_none(self):
        for blocks, ring in ((16, 4), (16, 8), (30, 20)):
            pages = fresh(blocks, ring)
            self.same(pages.many(), blocks - ring - 1)
            batch = pages.batch()
            self.same([batch.take_page() for _ in range(pages.many() - 1)], list(range(1, pages.many())))
            self.raises(NoRoom, batch.take_page)
            self.raises(NoRoom, batch.take_page)
            self.same((batch.get(0), len(batch.changed())), (("meta", -1, pages.many(), 0, 0), pages.many()))
            batch.give_page(3)
            self.same(batch.take_page(), 3)
            self.raises(NoRoom, batch.take_page)
            batch.done(())
            self.same((pages.high(), pages.in_use()), (pages.many(), pages.many()))
            self.raises(NoRoom, pages.batch().take_page)

    def test_the_meta_page_is_changed_if_it_is_another_one(self):
        pages = fresh()
        batch = pages.batch()
        self.same((batch.set_last(0), batch.set_root(0), batch.changed()), (None, None, ()))
        batch.set_last(5)
        self.same(batch.changed(), (0,))
        batch.set_last(0)
        self.same(batch.changed(), ())
        page = batch.take_page()
        batch.give_page(page)
        self.same((batch.changed(), batch.get(page)), ((0, 1), ("free", -1)))
        batch.take_page()
        batch.done(())
        batch = pages.batch()
        batch.give_page(1)
        batch.take_page()
        self.same(batch.changed(), (1,))
        batch.put(1, ("new",))
        self.same((batch.changed(), batch.done(()), pages.dirty()), ((1,), 1, (0, 1)))

    def test_an_empty_batch_is_a_record(self):
        pages = fresh()
        self.same([pages.batch().done(()), pages.batch().done((5,)), pages.record(), pages.dirty()], [0, 1, 1, ()])
        self.same((pages.notes(), pages._log.records()), ([(0, ()), (1, (5,))], [(0, (0,)), (1, (1, 5))]))

    def test_the_record_of_a_batch(self):
        pages = fresh()
        batch = pages.batch()
        batch.take_page(), batch.take_page(), batch.take_page()
        batch.put(3, ("x", "", -TOP))
        batch.give_page(2)
        batch.set_root(3)
        batch.set_last(TOP)
        batch.done(("note", 7))
        told_row = (2, "note", 7, 0, 5, "meta", 2, 4, 3, TOP, 1, 1, "new", 2, 2, "free", -1, 3, 3, "x", "", -TOP)
        self.same(pages._log.records(), [(0, told_row)])
        pages.force(0)
        self.same(Log(pages._disk.copy()).records(), [(0, told_row)])

    def test_nothing_of_a_batch_is_held_till_it_is_done(self):
        pages = fresh()
        batch = pages.batch()
        batch.take_page()
        batch.put(1, ("leaf", 1))
        batch.set_last(9)
        self.raises(NoPage, pages.held, 1)
        self.same((pages.held(0), pages.high(), pages.in_use(), pages.record(), pages.dirty(), pages.notes()),
                  (("meta", -1, 1, 0, 0), 1, 1, -1, (), []))
        self.same(pages._disk.waiting(), {})
        batch.done(())
        self.same((pages.held(1), pages.held(0), pages.forced()), (("leaf", 1), ("meta", -1, 2, 0, 9), -1))

    def test_root_and_last(self):
        batch = fresh().batch()
        self.same((batch.root(), batch.last()), (0, 0))
        batch.take_page()
        self.same((batch.set_root(1), batch.set_last(TOP), batch.root(), batch.last()), (None, None, 1, TOP))
        batch.give_page(1)
        self.same((batch.root(), batch.set_root(1), batch.set_root(0), batch.root()), (1, None, None, 0))


class Ends(Case):
    CALLS = [("get", 1), ("put", 1, ("a",)), ("take_page",), ("give_page", 1), ("root",), ("last",), ("set_root", 1), ("set_last", 1),
             ("changed",), ("done", ()), ("dropped",), ("get", None), ("put", None, None), ("give_page", None), ("set_root", None),
             ("set_last", None), ("done", None)]

    def over(self, batch):
        for name, *things in self.CALLS:
            self.same(told(batch, name, things), Over)

    def test_behind_done_dropped_and_another_batch(self):
        pages = fresh()
        for way in ("done", "dropped", "left"):
            batch = pages.batch()
            batch.take_page()
            if way == "done":
                batch.done(())
            elif way == "dropped":
                batch.dropped()
            else:
                pages.batch()
            self.over(batch)
        self.same((pages.high(), pages.record(), pages.in_use()), (2, 0, 2))

    def test_an_elder_one_does_not_end_the_newer_one(self):
        pages = fresh()
        elder = pages.batch()
        newer = pages.batch()
        self.over(elder)
        self.same((newer.take_page(), newer.done(("a",)), pages.notes()), (1, 0, [(0, ("a",))]))

    def test_dropped_ones_leave_no_trace(self):
        pages = fresh()
        batch = pages.batch()
        for _ in range(3):
            batch.take_page()
        batch.put(2, ("leaf", 5))
        batch.done(("a",))
        for way in ("dropped", "left"):
            batch = pages.batch()
            batch.take_page(), batch.give_page(1), batch.put(2, ("x",)), batch.set_root(2), batch.set_last(4)
            if way == "dropped":
                batch.dropped()
            batch = pages.batch()
            self.same([batch.get(page) for page in range(4)], [("meta", -1, 4, 0, 0), ("new",), ("leaf", 5), ("new",)])
            self.same((batch.root(), batch.last(), batch.changed(), pages.record()), (0, 0, (), 0))
            self.same([pages.held(page) for page in range(4)], [("meta", -1, 4, 0, 0), ("new",), ("leaf", 5), ("new",)])
            self.same((pages.dirty(), pages.in_use(), pages.high()), ((0, 1, 2, 3), 4, 4))

    def test_a_done_that_raises_leaves_it_open(self):
        pages = fresh(40, 4)
        batch = pages.batch()
        for _ in range(5):
            batch.put(batch.take_page(), ("leaf",) + (1,) * 30)
        batch.set_last(3)
        state = [batch.get(page) for page in range(6)]
        waits = pages._disk.waiting()
        for thing in WRONG_NOTES:
            self.raises(NoNote, batch.done, thing)
        self.raises(TooLarge, batch.done, ("a",))
        self.raises(NoNote, batch.done, None)
        self.same(([batch.get(page) for page in range(6)], batch.changed(), batch.last()), (state, (0, 1, 2, 3, 4, 5), 3))
        self.same((pages.record(), pages.held(0), pages.dirty(), pages._disk.waiting()), (-1, ("meta", -1, 1, 0, 0), (), waits))
        for page in (1, 2, 3):
            batch.put(page, ("x",))
        self.same((batch.done(("a",)), pages.held(5)), (0, ("leaf",) + (1,) * 30))

    def test_too_large_just_beyond_the_ring(self):
        """The note, page by page, fills 4 blocks of 36 items just so, then by one item more."""
        for further, is_large in ((0, False), (1, True)):
            pages = fresh(40, 4)
            batch = pages.batch()
            for _ in range(3):
                batch.put(batch.take_page(), ("leaf",) + (1,) * 38)
            # 3 * 41 of these, 7 of the meta page, and 14 of the note are all that four blocks hold
            note = (5,) * (144 - 3 * 41 - 7 - 1 + further)
            if is_large:
                self.raises(TooLarge, batch.done, note)
            else:
                self.same((batch.done(note), pages.room()), (0, 0))

    def test_too_large_just_beyond_6000(self):
        for further, is_large in ((0, False), (1, True)):
            pages = fresh(600, 200)
            batch = pages.batch()
            for _ in range(146):
                batch.put(batch.take_page(), ("leaf",) + (1,) * 38)
            note = (5,) * (6000 - 146 * 41 - 7 - 1 + further)
            self.same(0 <= len(note) <= 40, True)
            if is_large:
                self.raises(TooLarge, batch.done, note)
            else:
                self.same((batch.done(note), pages.room()), (0, 200 - 167))

    def test_a_note_of_forty(self):
        pages = fresh()
        self.same((pages.batch().done((1,) * 40), pages.batch().done(("",))), (0, 1))


class Wrong(Case):
    def setUp(self):
        self.pages = fresh()
        batch = self.pages.batch()
        for _ in range(4):
            batch.take_page()
        batch.give_page(2)
        batch.done(())
        self.batch = self.pages.batch()
        self.batch.put(3, ("leaf", 7))
        self.state = self.all()

    def all(self):
        return [self.batch.get(page) for page in range(5)], self.batch.changed(), self.pages.held(3)

    def tearDown(self):
        self.same(self.all(), self.state)

    def test_no_page(self):
        for thing in NOT_PAGES + [5, 6, -1]:
            for name in ("get", "give_page", "set_root"):
                self.same(told(self.batch, name, (thing,)), NoPage)
            self.same(told(self.batch, "put", (thing, ("leaf",))), NoPage)
            self.same(told(self.batch, "put", (thing, None)), NoPage)
            self.same((told(self.pages, "held", (thing,)), told(self.pages, "write_out", (thing,))), (NoPage, NoPage))

    def test_free_pages_and_the_meta_page(self):
        for page in (0, 2):
            self.raises(NoPage, self.batch.put, page, ("leaf",))
            self.raises(NoPage, self.batch.put, page, None)
            self.raises(NoPage, self.batch.give_page, page)
        self.same((self.batch.get(2), self.pages.held(2)), (("free", -1), ("free", -1)))

    def test_no_items(self):
        for thing in WRONG_ITEMS:
            with self.subTest(thing=repr(thing)[:60]):
                self.raises(NoItems, self.batch.put, 1, thing)

    def test_items_at_the_bounds(self):
        pages = fresh()
        batch = pages.batch()
        batch.take_page()
        for items in [("a",), ("",), ("x" * 12,), ("leaf",) + (TOP,) * 38, ("a", -TOP, "", "z" * 12), ("new",), ("freed",)]:
            self.same((batch.put(1, items), batch.get(1)), (None, items))

    def test_no_number(self):
        for thing in odd_things() + [-1, TOP + 1, 10 ** 59, "1", (1,)]:
            self.raises(NoNumber, self.batch.set_last, thing)
        for thing in odd_things() + [-1, 1, TOP, "0", (0,)]:
            self.raises(NoNumber, self.pages.force, thing)

    def test_no_other_error(self):
        for thing in odd_things():
            for name, things in [("get", (thing,)), ("put", (thing, thing)), ("give_page", (thing,)), ("set_root", (thing,)),
                                 ("set_last", (thing,)), ("put", (1, thing))]:
                pages = fresh()
                batch = pages.batch()
                batch.take_page()
                told(batch, name, things)
                told(batch, "done", (thing,))


def state_of(pages):
    """All that is not the epoch."""
    return [pages.held(page) for page in range(pages.high())], pages.notes(), pages.record(), pages.forced(), pages.dirty(), pages.room()


def lying(disk):
    return [disk.lying(block) for block in range(disk.blocks())]


class Leading(Case):
    def put_one(self, pages, page, worth):
        """A batch that puts one page, which it takes if it is the next one."""
        batch = pages.batch()
        if page == pages.high():
            batch.take_page()
        batch.put(page, ("leaf", worth))
        return batch.done((worth,))

    def test_dirty_and_written_out(self):
        pages = fresh()
        disk = pages._disk
        self.same((self.put_one(pages, 1, 5), self.put_one(pages, 2, 6), self.put_one(pages, 1, 7)), (0, 1, 2))
        self.same((pages.dirty(), pages.forced(), pages.record(), pages.room()), ((0, 1, 2), -1, 2, 5))
        self.same((pages.write_out(2), pages.forced(), pages.dirty()), (True, 1, (0, 1)))
        self.same((disk.waiting(), disk.read(11), disk.lying(11)), ({3: 1, 11: 1}, (1, "leaf", 6), ()))
        self.same((pages.write_out(2), pages.write_out(0), pages.forced(), pages.dirty()), (False, True, 1, (1,)))
        self.same((pages.write_out(1), pages.forced(), pages.dirty(), disk.read(10)), (True, 2, (), (2, "leaf", 7)))
        self.same((disk.read(9), disk.waiting()), ((1, "meta", -1, 3, 0, 0), {9: 1, 10: 1, 11: 1}))
        self.put_one(pages, 2, 8)
        self.same((pages.dirty(), pages.held(2), disk.read(11)), ((2,), ("leaf", 8), (1, "leaf", 6)))

    def test_a_page_that_is_not_dirty(self):
        pages = fresh()
        self.same((pages.write_out(0), pages.dirty(), pages._disk.waiting()), (False, (), {}))

    def test_force(self):
        pages = fresh()
        for k in range(3):
            self.put_one(pages, 1, k)
        self.same((pages.force(1), pages.forced(), pages.record(), pages._disk.waiting()), (None, 1, 2, {3: 1}))
        self.same((pages.force(0), pages.force(2), pages.forced(), pages._disk.waiting()), (None, None, 2, {}))
        self.raises(NoNumber, pages.force, 3)

    def test_checkpoint(self):
        pages = fresh()
        disk = pages._disk
        for k in range(3):
            self.put_one(pages, 1, k)
        pages.write_out(0)
        self.same(pages.checkpoint(), None)
        self.same((pages.dirty(), pages.forced(), pages.record(), pages.room(), pages.notes()), ((), 2, 2, 8, []))
        self.same((disk.waiting(), disk.lying(10), disk.lying(9)), ({}, (2, "leaf", 2), (0, "meta", -1, 2, 0, 0)))
        self.same(disk.lying(0), ("master", 1, 8, 3, 3, 1))
        self.same((self.put_one(pages, 1, 9), pages.dirty(), pages.notes(), pages.room()), (3, (1,), [(3, (9,))], 7))
        pages.checkpoint()
        pages.checkpoint()
        self.same((disk.lying(0), pages.record(), pages.forced()), (("master", 1, 8, 4, 4, 1), 3, 3))

    def test_a_checkpoint_forces_the_log_ahead_of_all_pages(self):
        """Also records that tell no page; then the pages, ascending, then the master."""
        for many in range(6):
            pages = fresh()
            disk = pages._disk
            self.put_one(pages, 1, 5)
            pages.batch().done(("a",))
            disk.power(many)
            self.same(stopped(pages.checkpoint), many < 5)
            self.same([disk.lying(block) != () for block in (1, 2, 10)], [many > 0, many > 1, many > 3])
            self.same((disk.lying(9)[0], disk.lying(0)[4]), (0 if many > 2 else -1, 2 if many > 4 else 0))

    def test_a_checkpoint_of_nothing(self):
        pages = fresh()
        self.same((pages.checkpoint(), pages.record(), pages.forced(), pages.notes()), (None, -1, -1, []))

    def test_a_checkpoint_just_where_the_ring_is_full(self):
        pages = fresh(40, 6)
        self.put_one(pages, 1, 0)
        for k in range(1, 6):
            self.same(self.put_one(pages, 1, k), k)
            self.same((pages.room(), len(pages.notes())), (5 - k, k + 1))
        self.same((self.put_one(pages, 1, 6), pages.room(), pages.notes(), pages.forced()), (6, 5, [(6, (6,))], 5))
        self.same((pages.dirty(), pages._disk.lying(8)), ((1,), (5, "leaf", 5)))

    def test_the_ring_goes_round(self):
        pages = fresh(24, 5)
        for k in range(200):
            self.same(self.put_one(pages, 1 + k % 9 if k < 9 else 1 + k * 7 % 9, k), k)
            if k % 37 == 0:
                pages.force(k)
            if k % 50 == 49:
                again = Pages(self.calmed(pages._disk))
                self.same(state_of(again)[:2], state_of(pages)[:2])
        self.same(pages._disk.lying(0)[3] > 150, True)

    def calmed(self, disk):
        for block in list(disk.waiting()):
            for _ in range(disk.waiting()[block]):
                disk.reach(block)
        return disk.copy()

    def test_a_checkpoint_amid_a_batch(self):
        pages = fresh()
        self.put_one(pages, 1, 5)
        batch = pages.batch()
        batch.put(batch.take_page(), ("x",))
        pages.checkpoint()
        pages.write_out(1)
        self.same((batch.get(2), batch.done(("a",)), pages.held(2), pages.dirty()), (("x",), 1, ("x",), (0, 2)))

    def test_methods_without_a_result_and_new_lists(self):
        pages = fresh()
        self.put_one(pages, 1, 5)
        pages.notes().clear()
        self.same(pages.notes(), [(0, (5,))])
        self.assertIsInstance(pages.dirty(), tuple)
        batch = pages.batch()
        self.same((batch.put(1, ("a",)), batch.give_page(1), batch.set_root(0), batch.set_last(1), batch.dropped()), (None,) * 5)
        self.same((pages.force(0), pages.checkpoint()), (None, None))

    def test_equal_to_themselves_alone(self):
        pages = fresh()
        batch = pages.batch()
        self.assertTrue(pages == pages and batch == batch)
        self.assertFalse(pages == fresh() or batch == pages or batch == pages.batch() or pages == 0)


class Opening(Case):
    def test_bad_disk(self):
        for thing in odd_things() + [24, Pages]:
            if not isinstance(thing, Disk):
                self.raises(BadDisk, Pages, thing)
        self.raises(BadDisk, Pages, Disk(16))
        wrong_masters = [(), ("master", 0, 8, 0, 0), ("mister", 0, 8, 0, 0, 0), ("master", 0, 3, 0, 0, 0), ("master", 0, 17, 0, 0, 0),
                         ("master", -1, 8, 0, 0, 0), ("master", 0, 8, 0, 0, "a")]
        self.each_bad(0, wrong_masters)

    def test_a_meta_page_that_is_none(self):
        meta = ("meta", -1, 1, 0, 0)
        wrong = [(), (-1,), (-1, *meta[:4]), (-1, *meta, 0), (-1, "free", -1), (-1, "new")]
        for place, things in [(0, ("free", "", "mets", 5)), (1, (-2, 0, 1, "", "a", TOP)), (2, (0, -1, 16, "", TOP)), (3, (-1, 1, "", TOP)),
                              (4, (-1, "", "a", -TOP))]:
            wrong += [(-1, *meta[:place], thing, *meta[place + 1:]) for thing in things]
        self.each_bad(9, wrong)

    def each_bad(self, block, contents):
        for content in contents:
            with self.subTest(content=content):
                disk = formatted(24, 8)
                disk.write(block, content)
                disk.write(20, (5,))
                self.raises(BadDisk, Pages, disk)
                self.same((disk.waiting(), disk.reached()), ({block: 1, 20: 1}, 2))
                disk.calm()
                self.raises(BadDisk, Pages, disk)
                self.same(disk.reached(), 4)

    def test_meta_pages_at_the_bounds(self):
        for meta in [("meta", -1, 15, 14, TOP), ("meta", 14, 15, 0, 0), ("meta", 1, 2, 1, 7), ("meta", -1, 1, 0, 0)]:
            disk = formatted(24, 8)
            disk.write(9, (-1, *meta))
            for page in range(1, meta[2]):
                disk.write(9 + page, (-1, "free", -1) if page == meta[1] else (-1, "leaf"))
            pages = Pages(disk)
            self.same((pages.held(0), pages.high(), pages.many()), (meta, meta[2], 15))
            batch = pages.batch()
            self.same((batch.root(), batch.last()), (meta[3], meta[4]))

    def test_a_meta_page_told_by_a_record(self):
        disk = formatted(24, 8)
        Log(disk).append((0, 0, 5, "meta", -1, 20, 0, 0))
        self.raises(BadDisk, Pages, disk)
        self.same(disk.lying(0)[1], 1)

    def test_dirty_as_an_opening_finds_it(self):
        pages = fresh()
        disk = pages._disk
        for worth, page in enumerate((1, 2, 3, 1)):
            Leading.put_one(self, pages, page, worth)
        for page in (1, 2):
            pages.write_out(page)
        disk.force((11,))
        pages.force(3)
        self.same(Pages(disk.copy()).dirty(), (0, 1, 3))
        disk.force((10,))
        self.same(Pages(disk.copy()).dirty(), (0, 3))
        # of its own opening all that waits is there
        self.same((Pages(disk).dirty(), disk.waiting()), ((0, 3), {}))
        again = Pages(disk)
        self.same((again.write_out(0), again.dirty(), disk.read(9)), (True, (3,), (2, "meta", -1, 4, 0, 0)))
        again.checkpoint()
        self.same(Pages(disk).dirty(), ())

    def test_stopped_amid_an_opening(self):
        for many in range(6):
            disk = formatted(24, 8)
            pages = Pages(disk)
            for worth in range(3):
                Leading.put_one(self, pages, 1, worth)
            disk.power(many)
            if many < 4:
                self.raises(Stopped, Pages, disk)
            else:
                Pages(disk)
            disk.cut()
            again = Pages(disk)
            # the records reach the disk in the order of their blocks
            self.same(again.record(), min(many, 3) - 1)
            if many > 0:
                self.same(again.held(1), ("leaf", min(many, 3) - 1))


class Fact(Case):
    """3.4: behind any cut each page is what it was behind the last batch of the prefix that lies there."""

    def drawn_batch(self, draw, pages, kept):
        book = Book(pages.many(), kept[max(kept)])
        batch = pages.batch()
        for _ in range(draw.randrange(1, 7)):
            name, things = drawn_call(draw, book)
            self.same(told(batch, name, things), told(book, name, things))
        ended = draw.random()
        if ended < 0.1:
            batch.dropped()
        elif ended < 0.9:
            try:
                kept[batch.done((draw.randrange(9),))] = book.items
            except TooLarge:
                batch.dropped()

    def drawn_step(self, draw, pages, kept, least):
        """One call, and what it forces; Stopped may come amid it."""
        way = draw.random()
        if way < 0.5:
            self.drawn_batch(draw, pages, kept)
        elif way < 0.7 and pages.dirty():
            pages.write_out(draw.choice(pages.dirty()))
        elif way < 0.75 and pages.notes():
            pages.force(draw.choice(pages.notes())[0])
        elif way < 0.78:
            pages.checkpoint()
        elif pages._disk.waiting():
            pages._disk.reach(draw.choice(list(pages._disk.waiting())))
        least.append(pages.forced())

    def opened_amid(self, draw, disk, many):
        """A cut amid an opening, if this takes so many writes."""
        disk.power(many)
        stopped(Pages, disk)
        some_reach(draw, disk)

    def test_lives(self):
        for seed in range(60):
            draw = drawn(seed)
            blocks, ring = draw.choice(((16, 4), (24, 8), (30, 6)))
            disk = formatted(blocks, ring)
            kept = {-1: {0: ("meta", -1, 1, 0, 0)}}
            least = -1
            for _ in range(10):
                pages = Pages(disk)
                self.held_right(pages, kept, least)
                forced = [pages.forced()]
                disk.power(draw.choice((None, 0, 1, 2, 5, 9, 20)))
                try:
                    for _ in range(draw.randrange(20)):
                        self.drawn_step(draw, pages, kept, forced)
                except Stopped:
                    pass
                some_reach(draw, disk)
                least = forced[-1]
                if draw.random() < 0.5:
                    self.opened_amid(draw, disk, draw.randrange(4))
                one = Pages(disk.copy())
                self.held_right(one, kept, least)
                other = Pages(disk)
                self.same(state_of(other), state_of(one))
                self.same(state_of(Pages(disk)), state_of(one))
                kept = {number: items for number, items in kept.items() if number <= one.record()}
                least = one.record()

    def held_right(self, pages, kept, least):
        """All is as behind its last record, which is none ahead of the last one that was forced."""
        self.assertGreaterEqual(pages.record(), least)
        self.assertIn(pages.record(), kept)
        told_items = kept[pages.record()]
        self.same([pages.held(page) for page in range(pages.high())], [told_items[page] for page in range(len(told_items))])
        self.same(pages.forced(), pages.record())
        first = pages._first
        rows = pages._log.records()
        last = {}
        for number, record in rows:
            at = 1 + record[0]
            while at < len(record):
                last[record[at]] = number
                at += 2 + record[at + 1]
        dirty = [page for page in last if pages._disk.lying(first + page)[:1] != (last[page],)]
        self.same(pages.dirty(), tuple(sorted(dirty)))

    def test_power_for_each_number_of_writes(self):
        """The same row of calls, stopped at its first, second, .. write, then any of what waits has reached the disk."""
        for seed in range(6):
            many = 0
            while True:
                draw, other = drawn(seed), drawn(1000 * seed + many)
                disk = formatted(24, 6)
                pages = Pages(disk)
                disk.power(many)
                kept, forced = {-1: {0: ("meta", -1, 1, 0, 0)}}, [-1]
                is_stopped = False
                try:
                    for _ in range(40):
                        self.drawn_step(draw, pages, kept, forced)
                except Stopped:
                    is_stopped = True
                some_reach(other, disk)
                self.held_right(Pages(disk), kept, forced[-1])
                many += 1
                if not is_stopped:
                    break
            self.assertGreater(many, 20)


class Arguments(Case):
    def test_items_and_notes_stay(self):
        """Tuples that were put are told again, as they were."""
        pages = fresh()
        batch = pages.batch()
        items = ("leaf", 1, "a")
        batch.put(batch.take_page(), items)
        batch.done(("note",))
        self.same((items, pages.held(1)), (("leaf", 1, "a"), ("leaf", 1, "a")))
