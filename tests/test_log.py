"""Promises 2.1 to 2.4: the log, of which a cut leaves a prefix."""

from wholeways.disk import Disk
from wholeways.errors import BadDisk, LogFull, NoNumber, NoRecord, Stopped, StoreError
from wholeways.log import Log, formatted

from tests.helping import Case, deep, drawn, odd_things

TOP = 10 ** 30


def record_of(many, mark=0):
    return (mark, *[k if k % 2 else "ab" for k in range(many - 1)])


def disk_of(blocks, ring, master, contents):
    """A disk with this master, and these contents in the blocks of the ring, all of it lying there."""
    disk = formatted(blocks, ring)
    disk.write(0, master)
    for k, content in contents.items():
        disk.write(1 + k % ring, content)
    disk.calm()
    return disk


def is_plain_record(thing):
    """What a record is, by the words of 2.1."""
    if not isinstance(thing, tuple) or not 1 <= len(thing) <= 6000 or not all(type(item) in (int, str) for item in thing):
        return False
    return all(abs(item) <= TOP if isinstance(item, int) else len(item) <= 12 and not item.strip("abcdefghijklmnopqrstuvwxyz")
               for item in thing)


def read(disk):
    return Log(disk).records()


def lying(disk):
    return [disk.lying(block) for block in range(disk.blocks())]


class Formatting(Case):
    def test_master_and_meta_page(self):
        for blocks, ring in [(16, 4), (16, 8), (24, 8), (600, 592), (600, 4), (100, 50)]:
            disk = formatted(blocks, ring)
            told = [()] * blocks
            told[0] = ("master", 0, ring, 0, 0, 0)
            told[ring + 1] = (-1, "meta", -1, 1, 0, 0)
            self.same(lying(disk), told)
            self.same((disk.blocks(), disk.waiting(), disk.reached()), (blocks, {}, 2))
            self.assertIsInstance(disk, Disk)

    def test_bad_disk(self):
        for thing in odd_things() + [15, 601, "24"]:
            self.raises(BadDisk, formatted, thing, 8)
            self.raises(BadDisk, formatted, thing, None)
        for thing in odd_things() + [3, 17, 24, "8", 10 ** 60, (8,)]:
            self.raises(BadDisk, formatted, 24, thing)
        for blocks in (16, 100, 600):
            self.raises(BadDisk, formatted, blocks, blocks - 7)
            self.raises(BadDisk, formatted, blocks, 3)
            formatted(blocks, blocks - 8)
            formatted(blocks, 4)


class Opening(Case):
    def test_the_epoch_goes_up(self):
        disk = formatted(24, 8)
        for epoch in range(1, 5):
            log = Log(disk)
            self.same(disk.lying(0), ("master", epoch, 8, 0, 0, 0))
            self.same((disk.waiting(), disk.reached()), ({}, 2 + epoch))
            self.same((log.forced(), log.last(), log.records(), log.room(), log.ring_size()), (-1, -1, [], 8, 8))

    def test_all_that_waits_reaches_the_disk_first(self):
        disk = formatted(24, 8)
        Log(disk).append((1, 2))
        disk.write(20, (5,))
        log = Log(disk)
        self.same((disk.lying(20), disk.lying(1), disk.waiting()), ((5,), (0, 1, 0, 0, 1, 2), {}))
        self.same((log.records(), log.forced(), log.last()), ([(0, (1, 2))], 0, 0))

    def test_a_master_that_waits_is_read(self):
        disk = formatted(24, 8)
        disk.write(0, ())
        self.raises(BadDisk, Log, disk)
        self.same(disk.waiting(), {0: 1})
        disk.write(0, ("master", 7, 16, 5, 3, 2))
        log = Log(disk)
        self.same((disk.lying(0), log.ring_size(), log.last()), (("master", 8, 16, 5, 3, 2), 16, 2))

    def test_stopped_amid_an_opening(self):
        for many in range(4):
            disk = formatted(24, 8)
            log = Log(disk)
            log.append(record_of(40))
            disk.power(many)
            if many < 3:
                self.raises(Stopped, Log, disk)
                disk.cut()
                self.same(disk.lying(0)[1], 1)
            else:
                Log(disk)
                disk.cut()
                self.same(disk.lying(0)[1], 2)
            self.same(read(disk), [(0, record_of(40))] if many >= 2 else [])

    def test_bad_disk(self):
        for thing in odd_things() + [24, formatted, Log]:
            if not isinstance(thing, Disk):
                self.raises(BadDisk, Log, thing)
        wrong = [(), ("master",), ("master", 0, 8, 0, 0), ("master", 0, 8, 0, 0, 0, 0), ("mister", 0, 8, 0, 0, 0), (0, 0, 8, 0, 0, 0),
                 ("master", -1, 8, 0, 0, 0), ("master", 0, 8, -1, 0, 0), ("master", 0, 8, 0, -1, 0), ("master", 0, 8, 0, 0, -1),
                 ("master", 0, 3, 0, 0, 0), ("master", 0, 17, 0, 0, 0), ("master", 0, -8, 0, 0, 0), ("master", 0, TOP, 0, 0, 0),
                 ("master", "", 8, 0, 0, 0), ("master", 0, "a", 0, 0, 0), ("master", 0, 8, "a", 0, 0), ("master", 0, 8, 0, "a", 0),
                 ("master", 0, 8, 0, 0, "a"), ("", 0, 8, 0, 0, 0), (-1, "meta", -1, 1, 0, 0), ("master", 0, 8, 0, 0, 0, "")]
        for content in wrong:
            disk = formatted(24, 8)
            disk.write(0, content)
            disk.write(5, (1,))
            self.raises(BadDisk, Log, disk)
            self.same((disk.read(0), disk.waiting(), disk.reached()), (content, {0: 1, 5: 1}, 2))
            disk.calm()
            self.raises(BadDisk, Log, disk)
        for blocks, ring in [(16, 4), (16, 8), (24, 16)]:
            Log(disk_of(blocks, 4, ("master", 0, ring, 0, 0, 0), {}))
            self.raises(BadDisk, Log, disk_of(blocks, 4, ("master", 0, blocks - 7, 0, 0, 0), {}))
        self.raises(BadDisk, Log, Disk(16))


class Appending(Case):
    def test_the_example(self):
        disk = formatted(24, 8)
        log = Log(disk)
        told = (disk.lying(0), log.append(("a", 1)), disk.waiting(), log.forced(), log.force(0), disk.lying(1), log.forced())
        self.same(told, (("master", 1, 8, 0, 0, 0), 0, {1: 1}, -1, None, (0, 1, 0, 0, "a", 1), 0))

    def test_records_of_all_lengths(self):
        for many in (1, 2, 35, 36, 37, 71, 72, 73, 144, 6000):
            disk = formatted(200, 180)
            log = Log(disk)
            thing = record_of(many)
            pieces = (many + 35) // 36
            self.same(log.append(thing), 0)
            self.same((log.records(), log.last(), log.forced(), log.room()), ([(0, thing)], 0, -1, 180 - pieces))
            self.same(disk.waiting(), {1 + k: 1 for k in range(pieces)})
            for k in range(pieces):
                self.same(disk.read(1 + k), (k, 1, 0, pieces - 1 - k, *thing[36 * k:36 * k + 36]))
            self.same(log.force(0), None)
            disk.cut()
            self.same(read(disk), [(0, thing)])

    def test_items_at_their_bounds(self):
        disk = formatted(24, 8)
        thing = (TOP, -TOP, "", "z" * 12, 0)
        Log(disk).append(thing)
        self.same(read(disk), [(0, thing)])

    def test_the_ring_goes_round(self):
        disk = formatted(24, 5)
        log, k = Log(disk), 0
        for number in range(40):
            thing = record_of((1, 36, 37, 80)[number % 4], number)
            pieces = (len(thing) + 35) // 36
            self.same(log.append(thing), number)
            for piece in range(pieces):
                told = (k + piece, 1, number, pieces - 1 - piece, *thing[36 * piece:36 * piece + 36])
                self.same(disk.read(1 + (k + piece) % 5), told)
            self.same((log.records(), log.room()), ([(number, thing)], 5 - pieces))
            self.same(log.begin_at(number + 1), None)
            k += pieces
            self.same(disk.lying(0), ("master", 1, 5, k, number + 1, 1))
            self.same((log.records(), log.room(), log.last(), log.forced()), ([], 5, number, number))

    def test_no_record(self):
        log = Log(formatted(24, 4))
        wrong = odd_things() + [[1], "a", 5, tuple([0] * 6001), ("A",), ("a" * 13,), (TOP + 1,), (-TOP - 1,), (1, True), (1, None), (1, (2,)),
                                (1, "a b"), (deep(39),), tuple([None] * 20000)]
        told = [thing for thing in wrong if not is_plain_record(thing)]
        self.assertGreater(len(told), 50)
        for thing in told:
            self.raises(NoRecord, log.append, thing)
        for k in range(4):
            log.append((k,))
        for thing in told:
            self.raises(NoRecord, log.append, thing)
        self.same(log.records(), [(k, (k,)) for k in range(4)])

    def test_log_full_just_where_it_is(self):
        for ring in (4, 7):
            for used in range(ring + 1):
                for pieces in range(1, ring + 2):
                    disk = formatted(24, ring)
                    log = Log(disk)
                    for _ in range(3):
                        log.append((0,))
                    log.begin_at(3)
                    for _ in range(used):
                        log.append((1,))
                    told = (disk.waiting(), log.records(), log.room(), log.last())
                    if pieces <= ring - used:
                        self.same(log.append(record_of(36 * pieces)), 3 + used)
                        self.same(log.room(), ring - used - pieces)
                    else:
                        self.raises(LogFull, log.append, record_of(36 * pieces))
                        self.raises(LogFull, log.append, record_of(36 * pieces - 35))
                        self.same((disk.waiting(), log.records(), log.room(), log.last()), told)

    def test_lists_are_new(self):
        log = Log(formatted(24, 4))
        log.append((1,))
        log.records().clear()
        self.same(log.records(), [(0, (1,))])


class Forcing(Case):
    def test_as_far_as_a_record(self):
        disk = formatted(24, 8)
        log = Log(disk)
        for k in range(4):
            log.append(record_of(40, k))
        self.same((log.force(1), log.forced(), disk.waiting()), (None, 1, {k: 1 for k in range(5, 9)}))
        self.same((log.force(0), log.force(1), log.forced(), disk.reached()), (None, None, 1, 7))
        self.same((log.force(3), log.forced(), disk.waiting()), (None, 3, {}))

    def test_what_reached_the_disk_otherwise_is_not_counted(self):
        disk = formatted(24, 8)
        log = Log(disk)
        log.append((1,))
        disk.calm()
        self.same(log.forced(), -1)
        self.same((log.force(0), log.forced(), disk.reached()), (None, 0, 4))

    def test_other_blocks_still_wait(self):
        disk = formatted(24, 8)
        log = Log(disk)
        disk.write(12, (1,))
        log.append((1,))
        log.force(0)
        self.same(disk.waiting(), {12: 1})

    def test_blocks_ascending_and_stopped(self):
        for many in range(5):
            disk = formatted(24, 4)
            log = Log(disk)
            for _ in range(3):
                log.append((0,))
            log.begin_at(3)
            log.append(record_of(80))
            log.append((7,))
            disk.power(many)
            if many < 4:
                self.raises(Stopped, log.force, 4)
            else:
                log.force(4)
            self.same(sorted(disk.waiting()), [1, 2, 3, 4][many:])
            disk.cut()
            told = [(3, record_of(80)), (4, (7,))]
            self.same(read(disk), told if many == 4 else [])

    def test_no_number(self):
        disk = formatted(24, 8)
        log = Log(disk)
        for thing in odd_things() + [0, 1]:
            self.raises(NoNumber, log.force, thing)
        for _ in range(4):
            log.append((1,))
        log.begin_at(2)
        for thing in odd_things() + [0, 1, 4, -1, "2", (2,), 10 ** 60]:
            self.raises(NoNumber, log.force, thing)
        self.same((log.forced(), disk.waiting()), (1, {3: 1, 4: 1}))
        self.same((log.force(2), log.force(3), log.forced()), (None, None, 3))


class Beginning(Case):
    def test_it_forces_what_is_ahead_alone(self):
        disk = formatted(24, 8)
        log = Log(disk)
        for k in range(4):
            log.append((k,))
        self.same((log.begin_at(0), disk.lying(0), log.forced()), (None, ("master", 1, 8, 0, 0, 1), -1))
        self.same((log.begin_at(2), disk.lying(0)), (None, ("master", 1, 8, 2, 2, 1)))
        self.same((log.records(), log.forced(), disk.waiting(), log.room()), ([(2, (2,)), (3, (3,))], 1, {3: 1, 4: 1}, 6))
        self.same((log.begin_at(4), disk.lying(0)), (None, ("master", 1, 8, 4, 4, 1)))
        self.same((log.records(), log.forced(), log.last(), disk.waiting(), log.room()), ([], 3, 3, {}, 8))
        self.same(read(disk), [])

    def test_first_is_the_epoch_of_the_record(self):
        disk = formatted(24, 8)
        for epoch in range(1, 5):
            log = Log(disk)
            log.append((epoch,))
            log.force(epoch - 1)
        self.same(log.records(), [(k, (k + 1,)) for k in range(4)])
        for number in range(4):
            log.begin_at(number)
            self.same(disk.lying(0), ("master", 4, 8, number, number, number + 1))
            self.same(Log(disk.copy()).records(), [(k, (k + 1,)) for k in range(number, 4)])
        log = Log(disk)
        self.same(disk.lying(0), ("master", 5, 8, 3, 3, 4))
        log.begin_at(4)
        self.same(disk.lying(0), ("master", 5, 8, 4, 4, 5))

    def test_running_numbers_go_on(self):
        disk = formatted(24, 4)
        log = Log(disk)
        log.append(record_of(100))
        log.begin_at(1)
        log = Log(disk)
        self.same((log.last(), log.forced(), log.room()), (0, 0, 4))
        self.same(log.append((5,)), 1)
        self.same(disk.read(4), (3, 2, 1, 0, 5))

    def test_no_number(self):
        disk = formatted(24, 8)
        log = Log(disk)
        for thing in odd_things() + [1]:
            self.raises(NoNumber, log.begin_at, thing)
        for _ in range(4):
            log.append((1,))
        log.begin_at(2)
        told = lying(disk), log.records(), disk.reached()
        for thing in odd_things() + [0, 1, 5, "2", (2,), 10 ** 60]:
            self.raises(NoNumber, log.begin_at, thing)
        self.same((lying(disk), log.records(), disk.reached()), told)

    def test_stopped_amid(self):
        for many in range(5):
            disk = formatted(24, 8)
            log = Log(disk)
            for k in range(4):
                log.append((k,))
            disk.power(many)
            if many < 4:
                self.raises(Stopped, log.begin_at, 3)
            else:
                log.begin_at(3)
            disk.cut()
            self.same(disk.lying(0)[3], 3 if many == 4 else 0)
            self.same(read(disk), [] if many == 4 else [(k, (k,)) for k in range(many)])


class Counting(Case):
    """What counts, rule by rule, on disks that are written by hand."""

    MASTER = ("master", 5, 6, 10, 3, 2)
    RIGHT = {10: (10, 2, 3, 1, *range(36)), 11: (11, 2, 3, 0, 36), 12: (12, 4, 4, 0, 7), 13: (13, 4, 5, 2, *range(36)),
             14: (14, 4, 5, 1, *range(36)), 15: (15, 4, 5, 0, 9)}
    RECORDS = [(3, tuple(range(37))), (4, (7,)), (5, (*range(36), *range(36), 9))]

    def held(self, changed, many):
        """With these contents in place of the right ones so many records are read."""
        log = Log(disk_of(24, 6, self.MASTER, {**self.RIGHT, **changed}))
        self.same(log.records(), self.RECORDS[:many])
        self.same((log.last(), log.forced()), (2 + many, 2 + many))
        self.same(log.room(), 6 - (0, 2, 3, 6)[many])
        log.append((5,)) if many < 3 else self.raises(LogFull, log.append, (5,))

    def test_all_right(self):
        self.held({}, 3)

    def test_none_there(self):
        for many, k in [(0, 10), (0, 11), (1, 12), (2, 13), (2, 14), (2, 15)]:
            self.held({k: ()}, many)
            self.held({k: self.RIGHT[k][:4]}, many)

    def test_running_numbers(self):
        for many, k in [(0, 10), (0, 11), (1, 12), (2, 13), (2, 14), (2, 15)]:
            for number in (k - 6, k + 6, k - 1, k + 1, 0):
                self.held({k: (number, *self.RIGHT[k][1:])}, many)

    def test_records(self):
        for many, k in [(0, 10), (0, 11), (1, 12), (2, 13), (2, 14), (2, 15)]:
            for record in (self.RIGHT[k][2] - 1, self.RIGHT[k][2] + 1):
                self.held({k: (*self.RIGHT[k][:2], record, *self.RIGHT[k][3:])}, many)

    def test_lefts(self):
        for many, k in [(0, 11), (2, 14), (2, 15)]:
            for left in (self.RIGHT[k][3] + 1, self.RIGHT[k][3] + 2, 9):
                self.held({k: (*self.RIGHT[k][:3], left, *self.RIGHT[k][4:])}, many)
        self.held({14: (14, 4, 5, 0, *range(36)), 15: ()}, 2)

    def test_any_left_begins_a_record(self):
        log = Log(disk_of(24, 6, self.MASTER, {10: (10, 2, 3, 9, 1)}))
        self.same(log.records(), [])
        for record in range(8):
            rows = {10: (10, 2, record, 0, 1), 11: (11, 2, record + 1, 1, 2), 12: (12, 2, record + 1, 0, 3)}
            log = Log(disk_of(24, 6, self.MASTER, rows))
            self.same(log.records(), [(3, (1,)), (4, (2, 3))] if record == 3 else [])

    def test_epochs(self):
        def with_epochs(*epochs):
            return {k: (k, epoch, *self.RIGHT[k][2:]) for k, epoch in zip(range(10, 16), epochs)}
        self.held(with_epochs(2, 2, 2, 2, 2, 2), 3)
        self.held(with_epochs(3, 3, 4, 5, 5, 5), 3)
        self.held(with_epochs(5, 5, 5, 5, 5, 5), 3)
        self.held(with_epochs(1, 1, 4, 4, 4, 4), 0)
        self.held(with_epochs(7, 7, 7, 7, 7, 7), 0)
        self.held(with_epochs(2, 3, 4, 4, 4, 4), 0)
        self.held(with_epochs(3, 2, 4, 4, 4, 4), 0)
        self.held(with_epochs(3, 3, 2, 4, 4, 4), 1)
        self.held(with_epochs(3, 3, 7, 7, 7, 7), 1)
        self.held(with_epochs(3, 3, 4, 3, 3, 3), 2)
        self.held(with_epochs(3, 3, 4, 4, 5, 5), 2)
        self.held(with_epochs(3, 3, 4, 4, 4, 3), 2)
        self.held(with_epochs(3, 3, 4, 7, 7, 7), 2)

    def test_at_most_the_ring_counts(self):
        contents = {k: (k, 1, k, 0, k) for k in range(4)}
        self.same(read(disk_of(24, 4, ("master", 1, 4, 0, 0, 0), contents)), [(k, (k,)) for k in range(4)])


class TheFactOfTheLog(Case):
    """Lives of a log: what is read behind each cut is a prefix of what was appended, with all that was forced."""

    def test_drawn_lives(self):
        self.seen = {"lost": 0, "kept": 0, "stopped": 0, "half": 0}
        for seed in range(500):
            self.lives(drawn(seed), seed % 5 + 4, seed % 3 == 0)
        for many in self.seen.values():
            self.assertGreater(many, 20)

    def lives(self, draw, ring, small):
        """small: one block for each record, so that leftovers of earlier lives fit by their numbers."""
        disk = formatted(24, ring)
        rows, begin, forced, mark = [], 0, -1, 0
        for _ in range(15):
            log = self.opened(draw, disk)
            rows, begin = self.read_back(log, rows, begin, forced)
            forced = log.forced()
            for _ in range(draw.randrange(7)):
                mark += 1
                many = 1 if small else draw.choice((1, 1, 36, 37, 80, 120))
                kind = draw.random()
                if kind < 0.6:
                    self.append(log, rows, record_of(many, mark))
                elif kind < 0.75 and log.last() >= begin:
                    forced = max(forced, draw.randrange(begin, log.last() + 1))
                    log.force(forced)
                elif kind < 0.9:
                    begin = draw.randrange(begin, log.last() + 2)
                    log.begin_at(begin)
                    forced = max(forced, begin - 1)
                self.held(log, rows, begin, forced)
            late = begin
            if draw.random() < 0.3:
                begin, forced, late = self.stop(draw, disk, log, begin, forced)
            if self.cut(draw, disk):
                begin, forced = late, max(forced, late - 1)

    def append(self, log, rows, thing):
        try:
            self.same(log.append(thing), len(rows))
            rows.append(thing)
        except LogFull:
            pass

    def stop(self, draw, disk, log, begin, forced):
        """The power ends amid a force or a begin_at, or does not; the last is the start of a master that may wait."""
        disk.power(draw.randrange(4))
        try:
            if log.last() >= begin and draw.random() < 0.5:
                number = draw.randrange(begin, log.last() + 1)
                log.force(number)
                return begin, max(forced, number), begin
            number = draw.randrange(begin, log.last() + 2)
            log.begin_at(number)
            return number, max(forced, number - 1), number
        except Stopped:
            self.seen["stopped"] += 1
            return begin, forced, number

    def cut(self, draw, disk):
        """Any lot of the writes that wait reaches the disk, in any order; then the power fails.

        Whether a master was among them.
        """
        disk.power(None)
        waits, master = disk.waiting(), False
        for block in draw.sample(sorted(waits), len(waits)):
            for _ in range(draw.choice((0, waits[block]))):
                disk.reach(block)
                master = master or block == 0
        disk.cut()
        return master

    def opened(self, draw, disk):
        """Sometimes the opening itself is cut, then all is the same."""
        told = Log(disk.copy()).records()
        while draw.random() < 0.4:
            disk.power(0)
            self.raises(Stopped, Log, disk)
            disk.cut()
        log = Log(disk)
        if draw.random() < 0.3:
            log = Log(disk)
        self.same(log.records(), told)
        return log

    def read_back(self, log, rows, begin, forced):
        found = log.records()
        self.assertEqual(log.last(), begin + len(found) - 1)
        rows = rows[:begin] + ["lost" for _ in range(begin - len(rows))] + rows[begin:]
        self.assertEqual(found, [(begin + k, row) for k, row in enumerate(rows[begin:begin + len(found)])])
        self.assertGreaterEqual(log.last(), forced)
        self.assertEqual(log.forced(), log.last())
        self.seen["lost" if len(rows) > log.last() + 1 else "kept"] += 1
        self.seen["half"] += forced < log.last() < len(rows) - 1
        return rows[:log.last() + 1], begin

    def held(self, log, rows, begin, forced):
        self.assertEqual(log.records(), [(k, rows[k]) for k in range(begin, len(rows))])
        self.same((log.last(), log.forced()), (len(rows) - 1, forced))
        used = sum((len(row) + 35) // 36 for row in rows[begin:])
        self.same(log.room(), log.ring_size() - used)

    def test_leftovers_of_an_earlier_life(self):
        """Blocks behind the last one that was read fit by number, record and left, but were written too early."""
        disk = formatted(24, 8)
        log = Log(disk)
        for k in range(4):
            log.append((k,))
        for block in (1, 3, 4):
            disk.reach(block)
        disk.cut()
        log = Log(disk)
        self.same(log.records(), [(0, (0,))])
        log.append((100,))
        log.force(1)
        disk.cut()
        self.same(disk.lying(3), (2, 1, 2, 0, 2))
        log = Log(disk)
        self.same(log.records(), [(0, (0,)), (1, (100,))])
        log.append((200,))
        disk.calm()
        disk.cut()
        self.same(read(disk), [(0, (0,)), (1, (100,)), (2, (200,))])

    def test_leftovers_behind_an_empty_start(self):
        disk = formatted(24, 8)
        log = Log(disk)
        for k in range(3):
            log.append((k,))
        for block in (1, 3):
            disk.reach(block)
        disk.cut()
        log = Log(disk)
        log.begin_at(1)
        log.append((7,))
        disk.reach(2)
        disk.cut()
        self.same(read(disk), [(1, (7,))])

    def test_half_a_record_of_an_earlier_life(self):
        disk = formatted(24, 8)
        log = Log(disk)
        log.append(record_of(72, 1))
        disk.reach(2)
        disk.cut()
        log = Log(disk)
        log.append(record_of(72, 2))
        disk.reach(1)
        disk.cut()
        self.same(read(disk), [])


class Arguments(Case):
    def test_no_other_error(self):
        for thing in odd_things():
            log = Log(formatted(24, 8))
            for function, things in [(Log, (thing,)), (formatted, (thing, thing)), (formatted, (24, thing)), (log.append, (thing,)),
                                     (log.force, (thing,)), (log.begin_at, (thing,))]:
                try:
                    function(*things)
                except StoreError:
                    pass
