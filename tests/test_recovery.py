"""Promise 4.1: what a disk means by what lies there alone."""

from wholeways.disk import Disk
from wholeways.errors import BadDisk, Stopped, TooLarge
from wholeways.log import Log, formatted
from wholeways.pages import Pages
from wholeways.recovery import commits_of, meaning, pages_of, prefix_of
from wholeways.versions import write_all

from tests.helping import Case, drawn, odd_things
from tests.test_versions import drawn_changes, without_gone

ALL = (pages_of, prefix_of, meaning, commits_of)


def state_of(disk):
    return [disk.lying(block) for block in range(disk.blocks())], [disk.read(block) for block in range(disk.blocks())], \
        disk.waiting(), disk.reached()


def committed(pages, commit, changes):
    """Changes as a store writes them; the number of the record."""
    batch = pages.batch()
    write_all(batch, commit, changes)
    batch.set_last(commit)
    return batch.done(("commit", commit))


class Meaning(Case):
    def test_a_formatted_disk(self):
        for blocks, ring in ((16, 4), (24, 8), (600, 592)):
            disk = formatted(blocks, ring)
            self.same([told(disk) for told in ALL], [{0: ("meta", -1, 1, 0, 0)}, [], {}, 0])

    def test_what_waits_means_nothing(self):
        disk = formatted(60, 20)
        pages = Pages(disk)
        committed(pages, 1, {"a": 5, "b": None})
        self.same([told(disk) for told in ALL], [{0: ("meta", -1, 1, 0, 0)}, [], {}, 0])
        pages.force(0)
        told_pages = {0: ("meta", -1, 2, 1, 1), 1: ("leaf", "a", -1, 1, 5, "b", -1, 0, 0)}
        self.same([told(disk) for told in ALL], [told_pages, [(0, ("commit", 1))], {"a": 5}, 1])
        committed(pages, 2, {"a": 6})
        self.same([told(disk) for told in ALL], [told_pages, [(0, ("commit", 1))], {"a": 5}, 1])
        disk.calm()
        self.same([told(disk) for told in ALL[1:]], [[(0, ("commit", 1)), (1, ("commit", 2))], {"a": 6}, 2])
        pages.checkpoint()
        self.same([told(disk) for told in ALL[1:]], [[], {"a": 6}, 2])

    def test_a_master_that_waits(self):
        """The master that lies there tells where the log starts, not one that waits."""
        disk = formatted(60, 20)
        pages = Pages(disk)
        committed(pages, 1, {"a": 5})
        pages.force(0)
        disk.write(0, ())
        disk.write(21, ())
        self.same([told(disk) for told in ALL[1:]], [[(0, ("commit", 1))], {"a": 5}, 1])

    def test_gone_ones_and_elder_versions(self):
        pages = Pages(formatted(60, 20))
        for commit, changes in enumerate(({"a": 1, "b": 2, "c": 3}, {"b": None, "c": 4}, {"c": 5, "d": 6})):
            pages.force(committed(pages, commit + 1, changes))
        self.same(meaning(pages._disk), {"a": 1, "c": 5, "d": 6})
        self.same(commits_of(pages._disk), 3)

    def test_free_pages_are_told_too(self):
        pages = Pages(formatted(60, 20))
        batch = pages.batch()
        batch.take_page(), batch.take_page(), batch.give_page(1)
        pages.force(batch.done(()))
        self.same(pages_of(pages._disk), {0: ("meta", 1, 3, 0, 0), 1: ("free", -1), 2: ("new",)})

    def test_the_disk_stays_as_it_is(self):
        pages = Pages(formatted(60, 20))
        for commit in range(1, 5):
            committed(pages, commit, {"a": commit})
        pages.force(1)
        pages.write_out(1)
        disk = pages._disk
        disk.power(0)
        state = state_of(disk)
        for told in ALL:
            told(disk)
            self.same(state_of(disk), state)
        # no power is asked for, and none is given
        self.raises(Stopped, disk.calm)

    def test_answers_are_new(self):
        disk = formatted(60, 20)
        pages = Pages(disk)
        pages.force(committed(pages, 1, {"a": 5}))
        for told in (pages_of, prefix_of, meaning):
            told(disk).clear()
            self.assertTrue(told(disk))

    def test_bad_disk(self):
        for told in ALL:
            for thing in odd_things() + [24, "disk"]:
                if not isinstance(thing, Disk):
                    self.raises(BadDisk, told, thing)
            self.raises(BadDisk, told, Disk(16))
            for block, content in [(0, ()), (0, ("master", 0, 3, 0, 0, 0)), (9, ()), (9, (-1, "meta", -1, 0, 0, 0)), (9, (-1, "leaf")),
                                   (9, (-1, "meta", -1, 16, 0, 0))]:
                disk = formatted(24, 8)
                disk.write(block, content)
                self.same(told(disk), told(formatted(24, 8)))
                disk.calm()
                state = state_of(disk)
                self.raises(BadDisk, told, disk)
                self.same(state_of(disk), state)

    def test_bad_disk_by_a_record(self):
        for told in ALL:
            disk = formatted(24, 8)
            Log(disk).append((0, 0, 2, "meta", 5))
            told(disk)
            disk.calm()
            self.raises(BadDisk, told, disk)


class Fact(Case):
    """Whatever has reached the disk, the meaning is that behind some record, none ahead of the last forced one."""

    def held_right(self, disk, kept, least):
        notes = prefix_of(disk)
        told = [number for number in kept if kept[number] == (meaning(disk), commits_of(disk))]
        self.assertTrue([number for number in told if number >= least])
        if notes:
            self.assertIn(notes[-1][0], told)
            self.assertGreaterEqual(notes[-1][0], least)

    def test_lives(self):
        for seed in range(25):
            draw = drawn(seed)
            disk = formatted(*draw.choice(((40, 8), (60, 20), (90, 40))))
            pages, kept, least, worths, commit = Pages(disk), {-1: ({}, 0)}, -1, {}, 0
            for _ in range(60):
                way = draw.random()
                if way < 0.4:
                    changes = {key: mark for key, mark in drawn_changes(draw).items() if key < "c"}
                    try:
                        number = committed(pages, commit + 1, changes)
                    except TooLarge:
                        continue
                    commit += 1
                    worths = {**worths, **changes}
                    kept[number] = (without_gone(worths), commit)
                elif way < 0.6 and pages.dirty():
                    pages.write_out(draw.choice(pages.dirty()))
                elif way < 0.65:
                    pages.checkpoint()
                elif way < 0.7 and pages.notes():
                    pages.force(pages.record())
                elif disk.waiting():
                    disk.reach(draw.choice(list(disk.waiting())))
                least = pages.forced()
                self.held_right(disk, kept, least)
            # an opening leaves the meaning, at each of its writes
            self.opened_amid(disk, kept, least)

    def opened_amid(self, disk, kept, least):
        told = meaning(disk.copy())
        for many in range(3):
            other = disk.copy()
            other.power(many)
            try:
                Pages(other)
            except Stopped:
                pass
            self.same(meaning(other), told)
        Pages(disk)
        self.held_right(disk, kept, least)
