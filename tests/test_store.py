"""Promises 11.1 to 11.3: the store whole."""

from wholeways.disk import Disk
from wholeways.errors import (BadDisk, BadSeen, NoKey, NoNumber, NoPage, NoRoom, NotOpen, NoWorth, Refused, Stopped, StoreError,
                              TooLarge)
from wholeways.log import formatted
from wholeways.recovery import commits_of, meaning, prefix_of
from wholeways.store import Store, new_store

from tests.books import Books
from tests.helping import Case, drawn, odd_things, some_reach, stopped
from tests.test_transactions import WRONG_KEYS, WRONG_RANGES, WRONG_SEEN_KEYS, WRONG_WORTHS

TOP = 10 ** 18


def put_all(store, worths):
    """A transaction that puts these, under way."""
    number = store.begin()
    for key, worth in worths.items():
        store.put(number, key, worth) if worth is not None else store.drop(number, key)
    return number


def keys(many):
    return ["k" + chr(97 + k // 26) + chr(97 + k % 26) for k in range(many)]


def whole_state(store):
    """All that can be told of a store, its disk included."""
    disk = store.disk()
    pages = store._pages
    return (store.open_ones(), [store.seen(number) for number in store.open_ones()], store.last(), store.lasting(), store.now(),
            store.versions(), store.debt(), store.ties_of_now(), store.dirty(), disk.waiting(), disk.reached(),
            [disk.read(block) for block in range(disk.blocks())], pages.record(), pages.forced(), pages.room(), pages.high(),
            pages.in_use(), [pages.held(page) for page in range(pages.high())], pages.notes())


class Plays(Case):
    """Transactions woven at will over a few keys, held against plain dicts of the commits."""

    def test_drawn(self):
        counts = {}
        for seed in range(40):
            draw = drawn(seed)
            store, books = new_store(*draw.choice(((64, 24), (120, 60), (60, 8)))), Books(self)
            for _ in range(90):
                books.step(draw, store)
                books.held(store)
                books.lasts(store)
            for name, many in books.counts.items():
                counts[name] = counts.get(name, 0) + many
        for name in ("refused", "commit", "looker"):
            self.assertGreater(counts[name], 40, name)

    def test_drawn_on_small_disks(self):
        """Where the ring or the pages are too few, all stays as it was."""
        counts = {}
        for seed in range(60):
            draw = drawn(seed)
            store, books = new_store(*draw.choice(((16, 8), (17, 8), (20, 4), (60, 4)))), Books(self, keys(40), 9)
            for _ in range(100):
                books.step(draw, store)
                books.held(store)
                books.lasts(store)
            for name, many in books.counts.items():
                counts[name] = counts.get(name, 0) + many
        for name in ("NoRoom", "TooLarge", "commit"):
            self.assertGreater(counts[name], 9, name)


class Fact(Case):
    """11.3: what lies there means a prefix of the commits with all that were to last, whenever the power fails."""

    def cut(self, draw, store, books, least):
        disk = store.disk()
        some_reach(draw, disk)
        books.behind(disk, meaning(disk), commits_of(disk), least)
        books.pending = None
        # amid an opening the power may fail, too
        for many in range(draw.randrange(3)):
            disk.power(many)
            if stopped(Store, disk):
                some_reach(draw, disk)
                self.same((meaning(disk), commits_of(disk)), (books.now(), len(books.worths) - 1))
            disk.power(None)
        return books.opened_again(disk)

    def test_lives(self):
        for seed in range(50):
            draw = drawn(seed)
            store, books = new_store(*draw.choice(((64, 24), (40, 10), (24, 5)))), Books(self)
            for _ in range(6):
                least = store.lasting()
                store.disk().power(draw.choice((None, 0, 1, 2, 3, 5, 8, 13, 30)))
                for _ in range(draw.randrange(40)):
                    if stopped(books.step, draw, store):
                        break
                    books.held(store)
                    least = books.lasts(store)
                store = self.cut(draw, store, books, least)

    def test_each_number_of_writes(self):
        """The same row of calls, stopped at its first, second, .. write, with any of what waits having reached the disk."""
        for seed in range(5):
            many, is_stopped = 0, True
            while is_stopped:
                draw, other = drawn(seed), drawn(1000 * seed + many)
                store, books = new_store(40, 10), Books(self)
                store.disk().power(many)
                least, is_stopped = 0, False
                for _ in range(150):
                    is_stopped = stopped(books.step, draw, store)
                    if is_stopped:
                        break
                    least = store.lasting()
                store = self.cut(other, store, books, least)
                for _ in range(6):
                    books.step(other, store)
                    books.held(store)
                many += 1
            self.assertGreater(many, 20)

    def test_each_number_of_writes_of_an_opening(self):
        for seed in range(10):
            many, is_stopped = 0, True
            while is_stopped:
                draw, other = drawn(seed), drawn(seed + many)
                store, books = new_store(40, 10), Books(self)
                for _ in range(50):
                    books.step(draw, store)
                least = store.lasting()
                store.disk().power(many)
                is_stopped = stopped(Store, store.disk())
                self.cut(other, store, books, least)
                many += 1

    def test_what_is_told_to_last_lasts(self):
        store = new_store(64, 24)
        for k in range(5):
            store.commit_soon(put_all(store, {"a": k}))
        store.commit(put_all(store, {"b": 1}))
        store.commit_soon(put_all(store, {"c": 1}))
        self.same((store.lasting(), store.last(), meaning(store.disk())), (6, 7, {"a": 4, "b": 1}))
        store.disk().cut()
        self.same(Store(store.disk()).now(), {"a": 4, "b": 1})

    def test_opened_twice(self):
        store = new_store(64, 24)
        store.commit_soon(put_all(store, {"a": 1}))
        store.commit(put_all(store, {"b": 1}))
        store.disk().cut()
        one = whole_state(Store(store.disk().copy()))
        two = whole_state(Store(store.disk()))
        three = whole_state(Store(store.disk()))
        for state in (two, three):
            # all but the epoch, and how many writes told of it
            self.same(state[:10] + state[12:], one[:10] + one[12:])


class Transactions(Case):
    def test_the_example(self):
        s = new_store(64, 24)
        t = s.begin()
        self.same((s.put(t, "a", 5), s.commit(t), s.now(), s.lasting(), meaning(s.disk())), (None, 1, {"a": 5}, 1, {"a": 5}))

    def test_numbers_are_from_0_on_anew_with_each_opening(self):
        store = new_store(64, 24)
        self.same([store.begin() for _ in range(3)], [0, 1, 2])
        store.abort(1)
        self.same((store.begin(), store.open_ones()), (3, {0: 0, 2: 0, 3: 0}))
        store.commit(put_all(store, {"a": 1}))
        again = Store(store.disk())
        self.same((again.begin(), again.stands_at(0), again.open_ones(), again.last()), (0, 1, {0: 1}, 1))
        again.put(0, "a", 2)
        self.same((again.commit(0), again.begin()), (2, 1))

    def test_a_snapshot_sees_what_was_not_forced_too(self):
        store = new_store(64, 24)
        store.commit_soon(put_all(store, {"a": 1}))
        number = store.begin()
        self.same((store.stands_at(number), store.get(number, "a"), store.lasting()), (1, 1, 0))

    def test_own_writes_stand_above_the_snapshot(self):
        store = new_store(64, 24)
        store.commit(put_all(store, {"a": 1, "b": 2, "c": 3}))
        number = store.begin()
        store.put(number, "b", 5), store.drop(number, "c"), store.put(number, "d", 6)
        store.commit(put_all(store, {"a": 9, "b": 9, "e": 9}))
        self.same([store.get(number, key) for key in "abcde"], [1, 5, None, 6, None])
        self.same(store.between(number, "a", "z"), [("a", 1), ("b", 5), ("d", 6)])
        self.same(store.seen(number), (1, ("a", "e"), (("a", "z", ("b", "c", "d")),), (("b", 5), ("c", None), ("d", 6))))
        self.same(store.wrote(number), (("b", 5), ("c", None), ("d", 6)))

    def test_a_snapshot_stays_behind_sweeps(self):
        store = new_store(120, 60)
        store.commit(put_all(store, {"a": 1, "b": 2}))
        number = store.begin()
        for k in range(6):
            store.commit(put_all(store, {"a": k, "b": None if k % 2 else k}))
        self.same((store.debt(), store.vacuum(), store.debt()), (10, 10, 0))
        self.same((store.get(number, "a"), store.get(number, "b"), store.between(number, "a", "b")), (1, 2, [("a", 1), ("b", 2)]))
        self.same(store.versions(), [("a", 7, 5), ("a", 1, 1), ("b", 7, None), ("b", 1, 2)])
        store.abort(number)
        self.same((store.debt(), store.sweep(1), store.sweep(1000), store.versions()), (3, 1, 2, [("a", 7, 5)]))

    def test_commits(self):
        store = new_store(64, 24)
        one, two, three = put_all(store, {"a": 1}), put_all(store, {"b": 1}), store.begin()
        self.same((store.commit(one), store.commit_soon(two), store.commit(three)), (1, 2, None))
        self.same((store.commit_soon(store.begin()), store.last(), store.open_ones()), (None, 2, {}))
        self.same(store._pages.notes(), [(0, ("commit", 1)), (1, ("commit", 2))])

    def test_a_drop_of_what_is_not_there_is_a_write(self):
        store = new_store(64, 24)
        self.same((store.commit(put_all(store, {"a": None})), store.versions(), store.now()), (1, [("a", 1, None)], {}))

    def test_refused(self):
        store = new_store(64, 24)
        one, two = store.begin(), store.begin()
        for number in (one, two):
            store.get(number, "a")
            store.put(number, "a", number)
        store.commit(one)
        state = whole_state(store)
        for call in (store.commit, store.commit_soon):
            self.same(self.raises(Refused, call, two).ring, (1, 0))
            self.assertEqual(whole_state(store), state)
        store.abort(two)
        self.same((store.now(), store.open_ones()), ({"a": 0}, {}))

    def test_write_skew_by_ranges(self):
        store = new_store(64, 24)
        one, two = store.begin(), store.begin()
        for number, key in ((one, "b"), (two, "c")):
            self.same(store.between(number, "a", "z"), [])
            store.put(number, key, 1)
        store.commit_soon(one)
        self.same(self.raises(Refused, store.commit, two).ring, (1, 0))

    def test_also_saw_counts(self):
        store = new_store(64, 24)
        one, two = put_all(store, {"a": 1}), put_all(store, {"b": 1})
        store.also_saw(one, ("b",), ())
        store.also_saw(two, (), (("a", "aa", ()),))
        self.same((store.seen(one)[1:3], store.seen(two)[1:3]), ((("b",), ()), ((), (("a", "aa", ()),))))
        store.commit(one)
        self.same(self.raises(Refused, store.commit, two).ring, (1, 0))

    def test_aborted_as_if_never(self):
        store = new_store(64, 24)
        one, two, three = store.begin(), store.begin(), store.begin()
        store.get(two, "a"), store.put(two, "b", 1)
        store.get(three, "b"), store.put(three, "a", 1)
        disk = store.disk().waiting()
        self.same((store.abort(two), store.disk().waiting(), store.last()), (None, disk, 0))
        self.same((store.commit(three), store.open_ones(), store.ties_of_now()), (1, {one: 0}, ((2,), (0,))))
        store.abort(one)
        self.same((store.ties_of_now(), store.now()), (((), ()), {"a": 1}))


class Lasting(Case):
    def test_what_is_forced(self):
        store = new_store(120, 60)
        lookers = []
        for k in range(6):
            store.commit_soon(put_all(store, {"a": k}))
            lookers.append(store.begin())
        self.same((store.lasting(), store.last(), store._pages.forced()), (0, 6, -1))
        self.same((store.commit_soon(lookers[3]), store.lasting()), (None, 0))
        self.same((store.commit(lookers[1]), store.lasting(), store._pages.forced()), (None, 2, 1))
        self.same((store.commit(lookers[0]), store.lasting()), (None, 2))
        self.same(commits_of(store.disk()), 2)
        number = put_all(store, {"b": 1})
        store.commit_soon(put_all(store, {"c": 1}))
        self.same((store.commit(number), store.lasting(), store.last()), (8, 8, 8))
        self.same((store.commit_soon(put_all(store, {"c": 1})), store.lasting(), store.force(), store.lasting()), (9, 8, None, 9))

    def test_a_looker_forces_no_further_than_its_snapshot(self):
        """Not the sweep behind it, either."""
        store = new_store(120, 60)
        store.commit_soon(put_all(store, {"a": 1}))
        store.commit_soon(put_all(store, {"a": 2}))
        number = store.begin()
        store.sweep(5)
        self.same((store.commit(number), store._pages.forced(), store._pages.record(), store.lasting()), (None, 1, 2, 2))

    def test_a_looker_over_what_was_read(self):
        store = new_store(64, 24)
        self.same((store.commit(store.begin()), store.disk().waiting()), (None, {}))
        store.commit(put_all(store, {"a": 1}))
        again = Store(store.disk())
        number = again.begin()
        again.commit_soon(put_all(again, {"a": 2}))
        self.same((again.commit(number), again.lasting(), again.last()), (None, 1, 2))

    def test_what_reached_the_disk_otherwise_is_not_counted(self):
        store = new_store(64, 24)
        store.commit_soon(put_all(store, {"a": 1}))
        store.disk().calm()
        self.same((store.lasting(), commits_of(store.disk())), (0, 1))
        store.force()
        self.same(store.lasting(), 1)

    def test_writing_a_page_out_forces_its_record(self):
        store = new_store(64, 24)
        store.commit_soon(put_all(store, {"a": 1}))
        store.commit_soon(put_all(store, {"a": 2}))
        self.same((store.dirty(), store.write_out(1), store.lasting(), store.dirty()), ((0, 1), True, 2, (0,)))
        self.same((store.write_out(1), store.checkpoint(), store.dirty(), store.lasting()), (False, None, (), 2))
        self.same(prefix_of(store.disk()), [])

    def test_a_full_ring_makes_all_last(self):
        store = new_store(64, 4)
        told = []
        for k in range(9):
            store.commit_soon(put_all(store, {"a": k}))
            told.append(store.lasting())
        # records are of one block while there is one small leaf
        self.same(told, [0, 0, 0, 0, 4, 4, 4, 4, 8] if store._pages.room() == 3 else told)
        self.assertGreater(max(told), 0)

    def test_force_with_nothing_to_force(self):
        store = new_store(64, 24)
        self.same((store.force(), store.checkpoint(), store.force(), store.lasting()), (None, None, None, 0))

    def test_a_second_store_over_waiting_writes(self):
        store = new_store(64, 24)
        for k in range(4):
            store.commit_soon(put_all(store, {"a": k, "b": -k}))
        store.write_out(1)
        self.assertTrue(store.disk().waiting())
        again = Store(store.disk())
        self.same((again.last(), again.lasting(), again.now(), again.disk().waiting()), (4, 4, {"a": 3, "b": -3}, {}))
        self.same((again.open_ones(), again.ties_of_now(), again.dirty()), ({}, ((), ()), (0,)))
        self.same(again.versions(), store.versions())


class NoSpace(Case):
    def test_no_room(self):
        store = new_store(16, 8)
        store.commit(put_all(store, {"b": 1, "a": 7}))
        store.commit(put_all(store, {"b": 2}))
        number = put_all(store, {key: 1 for key in keys(30)})
        store.get(number, "a")
        state = whole_state(store)
        for call in (store.commit, store.commit_soon, store.commit):
            self.raises(NoRoom, call, number)
            self.assertEqual(whole_state(store), state)
        other = put_all(store, {"b": 3})
        self.same((store.commit(other), store.get(number, "b")), (3, 2))
        self.raises(NoRoom, store.commit, number)
        self.same((store.abort(number), store.now(), store.last()), (None, {"a": 7, "b": 3}, 3))

    def test_room_again_behind_a_sweep(self):
        store = new_store(16, 8)
        many = 0
        while True:
            number = put_all(store, {"a": many, "b": many})
            try:
                store.commit(number)
            except NoRoom:
                break
            many += 1
        self.assertGreater(many, 8)
        self.same(store.last(), many)
        self.assertGreater(store.vacuum(), many)
        self.same((store.commit(number), store.now()), (many + 1, {"a": many, "b": many}))

    def test_too_large(self):
        store = new_store(60, 4)
        store.commit(put_all(store, {"a": 1}))
        number = put_all(store, {key: 1 for key in keys(40)})
        state = whole_state(store)
        for call in (store.commit, store.commit_soon):
            self.raises(TooLarge, call, number)
            self.assertEqual(whole_state(store), state)
        small = put_all(store, {key: 1 for key in keys(5)})
        self.same(store.commit(small), 2)
        self.raises(TooLarge, store.commit, number)
        store.abort(number)
        self.same(store.open_ones(), {})

    def spread(self, rounds):
        """A store with a ring of 4 blocks in which each key has so many elder versions, over many leaves."""
        store = new_store(100, 4)
        for k in range(rounds):
            for key in keys(40):
                store.commit(put_all(store, {key: k}))
        return store

    def test_a_sweep_that_is_too_large(self):
        store = self.spread(3)
        self.same(store.debt(), 80)
        state = whole_state(store)
        self.raises(TooLarge, store.sweep, 1000)
        self.assertEqual(whole_state(store), state)
        self.same((store.sweep(2), store.debt()), (2, 78))

    def test_a_vacuum_that_is_too_large(self):
        """What went by the sweeps ahead is gone: that of the first eight, in few leaves, not that of one key each."""
        store = new_store(150, 4)
        for k in range(9):
            store.commit(put_all(store, {"a": k}))
        for k in range(9):
            for key in keys(12):
                store.commit(put_all(store, {key: k}))
            if k < 7:
                store.begin()
        rows = store.versions()
        self.same(store.debt(), 8 + 12)
        self.raises(TooLarge, store.vacuum)
        self.same((store.debt(), store.versions()), (12, [row for row in rows if row[0] != "a" or row[2] == 8]))
        state = whole_state(store)
        self.raises(TooLarge, store.vacuum)
        self.assertEqual(whole_state(store), state)
        self.same((store.sweep(1), store.debt(), store.now()), (1, 11, {"a": 8, **{key: 8 for key in keys(12)}}))

    def test_vacuum_goes_by_eight(self):
        store = new_store(120, 60)
        for k in range(30):
            store.commit(put_all(store, {"a": k}))
        ahead = store._pages.record()
        self.same((store.vacuum(), store.vacuum()), (29, 0))
        notes = [note for number, note in store._pages.notes() if number > ahead]
        self.same((notes, store._pages.record() - ahead), ([("sweep",)] * 4, 4))

    def test_a_sweep_of_nothing_is_no_record(self):
        store = new_store(64, 24)
        store.commit(put_all(store, {"a": 1}))
        state = whole_state(store)
        self.same((store.sweep(1000), store.vacuum(), store.sweep(1)), (0, 0, 0))
        self.assertEqual(whole_state(store), state)


class Wrong(Case):
    def setUp(self):
        self.store = new_store(64, 24)
        self.store.commit(put_all(self.store, {"a": 1}))
        self.number = put_all(self.store, {"b": 2})
        self.store.get(self.number, "a")
        self.state = whole_state(self.store)

    def tearDown(self):
        self.assertEqual(whole_state(self.store), self.state)

    def test_not_open(self):
        store = self.store
        for thing in odd_things() + [0, 2, 10 ** 59, "1", (1,), 1.0 == 1]:
            for call in (store.stands_at, store.wrote, store.seen, store.abort, store.commit, store.commit_soon):
                self.raises(NotOpen, call, thing)
            for call, things in [(store.get, ("a",)), (store.get, (None,)), (store.between, ("a", "b")), (store.between, (1, 2)),
                                 (store.put, ("a", 1)), (store.put, (None, None)), (store.drop, ("a",)), (store.drop, (5,)),
                                 (store.also_saw, ((), ())), (store.also_saw, (None, None))]:
                self.raises(NotOpen, call, thing, *things)

    def test_what_transactions_raise(self):
        store, number = self.store, self.number
        for thing in WRONG_KEYS:
            self.raises(NoKey, store.get, number, thing)
            self.raises(NoKey, store.between, number, thing, None)
            self.raises(NoKey, store.between, number, "a", thing)
            self.raises(NoKey, store.put, number, thing, None)
            self.raises(NoKey, store.drop, number, thing)
        for thing in WRONG_WORTHS:
            self.raises(NoWorth, store.put, number, "a", thing)
        for thing in WRONG_SEEN_KEYS:
            if thing not in [(), ("a",)]:
                self.raises(BadSeen, store.also_saw, number, thing, ())
        for thing in WRONG_RANGES:
            if thing != ():
                self.raises(BadSeen, store.also_saw, number, ("a",), thing)

    def test_sweeps_and_pages(self):
        for thing in odd_things() + [0, 1001, "5", (5,), 10 ** 59]:
            self.raises(NoNumber, self.store.sweep, thing)
        for thing in odd_things() + [2, 10 ** 59, "1", (1,)]:
            self.raises(NoPage, self.store.write_out, thing)

    def test_answers_are_new(self):
        store = self.store
        for call in (store.open_ones, store.now, store.versions):
            call().clear()
            self.assertTrue(call())
        found = store.between(self.number, "b", "b")
        found.clear()
        self.same(store.between(self.number, "b", "b"), [("b", 2)])
        self.state = whole_state(store)


class Opening(Case):
    def test_bad_disk(self):
        for thing in odd_things() + [24, Store]:
            if not isinstance(thing, Disk):
                self.raises(BadDisk, Store, thing)
        self.raises(BadDisk, Store, Disk(16))
        for block, content in [(0, ()), (9, (-1, "meta", -1, 0, 0, 0)), (9, ())]:
            disk = formatted(24, 8)
            disk.write(block, content)
            self.raises(BadDisk, Store, disk)
            self.same((disk.waiting(), disk.reached()), ({block: 1}, 2))
        for thing in odd_things() + [15, 601]:
            self.raises(BadDisk, new_store, thing, 8)
        for thing in odd_things() + [3, 17]:
            self.raises(BadDisk, new_store, 24, thing)

    def test_a_new_one(self):
        store = new_store(24, 8)
        self.same((store.open_ones(), store.open_snapshots(), store.last(), store.lasting(), store.now(), store.debt(), store.vacuum(),
                   store.versions(), store.dirty(), store.ties_of_now()), ({}, (), 0, 0, {}, 0, 0, [], (), ((), ())))
        self.assertIsInstance(store.disk(), Disk)
        self.same((store.disk().blocks(), store.disk().lying(0)), (24, ("master", 1, 8, 0, 0, 0)))

    def test_it_is_led_by_the_disk_it_was_given(self):
        disk = formatted(24, 8)
        store = Store(disk)
        self.assertTrue(store.disk() is disk)
        store.commit(put_all(store, {"a": 1}))
        self.same(meaning(disk), {"a": 1})

    def test_stopped(self):
        store = new_store(64, 24)
        store.disk().power(0)
        number = put_all(store, {"a": 1})
        self.raises(Stopped, store.commit, number)
        store.disk().cut()
        self.same(Store(store.disk()).now(), {})

    def test_equal_to_themselves_alone(self):
        store = new_store(24, 8)
        self.assertTrue(store == store)
        self.assertFalse(store == new_store(24, 8) or store == store.disk() or store == 0)

    def test_no_other_error(self):
        for thing in odd_things():
            store = new_store(24, 8)
            number = store.begin()
            for name, things in [("get", (number, thing)), ("put", (number, thing, thing)), ("put", (number, "a", thing)),
                                 ("between", (number, thing, thing)), ("also_saw", (number, thing, thing)), ("commit", (thing,)),
                                 ("write_out", (thing,)), ("sweep", (thing,)), ("drop", (number, thing))]:
                try:
                    getattr(store, name)(*things)
                except StoreError:
                    pass
