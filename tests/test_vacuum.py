"""Promises 10.1 and 10.2: vacuum."""

from itertools import combinations

from wholeways.errors import NoNumber, NoSnapshots, NoVersion, NoVersions, StoreError
from wholeways.tree import is_sound
from wholeways.vacuum import harm, is_kept_right, needed, sweep, takeable
from wholeways.versions import all_versions, at, dict_at, range_at, versions_of, write_all

from tests.helping import Case, PlainBatch, deep, drawn, odd_things
from tests.test_versions import KEYS, drawn_changes

TOP = 10 ** 18


def plain_seen(versions, snapshot):
    return next((version for version in versions if version[0] <= snapshot), None)


def plain_needed(versions, asked):
    """By the words of 10.1, from the eldest on."""
    found = []
    for version in sorted(versions, key=lambda row: row[0]):
        if any(plain_seen(versions, s) == version for s in asked) and (version[1] is not None or found):
            found.append(version[0])
    return tuple(found)


def plain_right(versions, asked, lot):
    kept = [version for version in versions if version[0] in lot]
    for s in asked:
        seen, found = plain_seen(versions, s), plain_seen(kept, s)
        if found != seen and not (seen and seen[1] is None and found is None):
            return False
    return True


def plain_worth(versions, snapshot):
    seen = plain_seen(versions, snapshot)
    return None if seen is None or seen[1] is None else seen


def drawn_versions(draw, many):
    commits = sorted(draw.sample(range(1, 12), many), reverse=True)
    return [(commit, draw.choice((None, None, 1, 2, 2))) for commit in commits]


def drawn_asked(draw, versions):
    last = max([commit for commit, _ in versions], default=0) + draw.choice((0, 0, 1, 4))
    return tuple(s for s in range(last + 1) if draw.random() < 0.25), last


class Needs(Case):
    def test_the_example(self):
        told = (needed([(9, None), (7, 4), (3, 5)], (4,), 9), needed([(9, None), (7, 4)], (), 9), harm([(7, 4), (3, 5)], (4,), 7, 3))
        self.same(told, ((3, 9), (), 4))

    def test_against_a_plain_walk(self):
        """Needed is a right lot, each right lot has all of it; snapshots to come ask for no more."""
        draw = drawn(1)
        for _ in range(500):
            versions = drawn_versions(draw, draw.randrange(7))
            lot, last = drawn_asked(draw, versions)
            asked = sorted({*lot, last})
            kept = list(versions)
            told = needed(versions, lot, last)
            self.same(told, plain_needed(versions, asked))
            self.same(needed(tuple(versions), lot, last), told)
            self.same(plain_needed(versions, asked + [last + 1, last + 9]), told)
            self.lots(versions, lot, last, asked, told)
            self.harms(versions, lot, last, asked)
            self.assertEqual(versions, kept)

    def lots(self, versions, lot, last, asked, told):
        commits = sorted(commit for commit, _ in versions)
        right = []
        for many in range(len(commits) + 1):
            for thing in combinations(commits, many):
                goes = plain_right(versions, asked, thing)
                self.same(is_kept_right(versions, lot, last, thing), goes)
                if goes:
                    right.append(set(thing))
        self.assertIn(set(told), right)
        self.assertTrue(all(thing >= set(told) for thing in right))

    def harms(self, versions, lot, last, asked):
        for commit, _ in versions:
            others = [version for version in versions if version[0] != commit]
            told = [s for s in asked if plain_worth(versions, s) != plain_worth(others, s)]
            self.same(harm(versions, lot, last, commit), told[0] if told else None)

    def test_gone_ones(self):
        self.same(needed([(5, None), (3, None), (1, 7)], (1, 3), 5), (1, 3, 5))
        self.same(needed([(5, None), (3, None), (1, 7)], (3,), 5), ())
        self.same(needed([(5, None), (3, None), (1, 7)], (2,), 5), (1, 5))
        self.same(needed([(5, 8), (3, None), (1, 7)], (4,), 5), (5,))
        self.same(needed([(1, None)], (0, 1), 1), ())
        self.same(needed([], (0, 4), 9), ())
        self.same(needed((), (), 0), ())

    def test_a_gone_one_for_another(self):
        """Another gone one does no harm, but is not the same version."""
        versions = [(5, None), (3, None), (1, 7)]
        self.same(harm(versions, (1, 4), 6, 5), None)
        self.same(is_kept_right(versions, (1, 4), 6, (1, 3)), False)
        self.same(is_kept_right(versions, (1, 4), 6, (1, 3, 5)), True)
        self.same(harm(versions, (1, 4), 6, 3), 4)
        self.same(harm(versions, (1, 4), 6, 1), 1)
        self.same(harm([(2, None)], (), 5, 2), None)

    def test_an_equal_worth_is_another_version(self):
        versions = [(5, 7), (1, 7)]
        self.same(harm(versions, (2,), 5, 5), 5)
        self.same(harm(versions, (2,), 5, 1), 2)
        self.same(needed(versions, (2,), 5), (1, 5))
        self.same(is_kept_right(versions, (2,), 5, (1,)), False)

    def test_the_greatest(self):
        self.same(needed([(TOP, -TOP), (1, TOP)], (TOP - 1, TOP), TOP), (1, TOP))
        self.same(harm([(TOP, None), (1, TOP)], (), TOP, TOP), TOP)

    def test_things_that_are_no_lot(self):
        versions = [(5, 7), (1, 7)]
        for thing in odd_things() + [[5], 5, (5, 5), (5, 1), (1, 5, 9), (True, 5), ("a",), {5: 7}, (1, None), "5", ((5, 7),), (5, deep(38))]:
            self.same(is_kept_right(versions, (), 5, thing), False)
        self.same((is_kept_right(versions, (), 5, (5,)), is_kept_right(versions, (), 5, (1, 5))), (True, True))
        self.same((is_kept_right([], (), 5, ()), is_kept_right([], (), 5, (0,)), is_kept_right([], (), 5, [])), (True, False, False))


class WrongNeeds(Case):
    CALLS = [(needed,), (is_kept_right, ()), (harm, 5)]

    def told(self, kind, *things):
        """The error that all three raise, whatever the last argument of some is."""
        found = []
        for function, *more in self.CALLS:
            found.append(self.raises(kind, function, *things, *more))
            found.append(self.raises(kind, function, *things, *[None for _ in more]))
        return found

    def test_no_list_or_tuple(self):
        for thing in odd_things():
            if not isinstance(thing, (list, tuple)):
                for lot, last in [((), 9), (None, None)]:
                    self.same({e.index for e in self.told(NoVersions, thing, lot, last)}, {-1})

    def test_versions(self):
        wrong = odd_things() + [(0, 1), (TOP + 1, 1), (True, 1), ("a", 1), (3,), (3, 1, 1), [3, 1], (3, True), (3, "a"), (3, TOP + 1), (3, -TOP - 1),
                                (3, (1,)), (None, None), (5, 1), (6, 1), {3: 1}, 3, (3, deep(37))]
        wrong = [thing for thing in wrong if not (isinstance(thing, tuple) and thing in [(1, 1), (2, 1)] and type(thing[0]) is int)]
        for thing in wrong:
            for kind in (list, tuple):
                self.same({e.index for e in self.told(NoVersions, kind([(5, 1), thing]), (), 9)}, {1})
                self.same({e.index for e in self.told(NoVersions, kind([(5, 1), thing, None]), None, None)}, {1})
        for thing in [(0, 1), None, True, [5, 1], (5,)]:
            self.same({e.index for e in self.told(NoVersions, [thing], (), 9)}, {0})
        self.same({e.index for e in self.told(NoVersions, [(5, 1), (4, 1), (4, 1)], (), 9)}, {2})

    def test_last(self):
        for thing in odd_things() + [4, 0, TOP + 1, "5", (5,), 10 ** 60]:
            self.told(NoNumber, [(5, 1), (3, 1)], (), thing)
            self.told(NoNumber, [(5, 1), (3, 1)], None, thing)
            self.told(NoNumber, [(5, 1)], (), thing)
        for thing in odd_things() + [TOP + 1]:
            for lot in ((), None):
                self.raises(NoNumber, needed, [], lot, thing)

    def test_open_lot(self):
        wrong = [thing for thing in odd_things()] + [[5], 5, (8,), (3, 8), (5, 5), (5, 3), (-1, 3), (3, True), (3, "a"), {3: 1}, (3, None), (deep(38),)]
        for thing in wrong:
            self.told(NoSnapshots, [(5, 1), (3, 1)], thing, 7)
        self.same(needed([(5, 1), (3, 1)], (0, 7), 7), (5,))

    def test_no_version(self):
        for thing in odd_things() + [4, 6, 0, "5", (5,), (5, 1), 10 ** 60]:
            self.raises(NoVersion, harm, [(5, 1), (3, 1)], (), 7, thing)
        self.raises(NoVersion, harm, [(5, 1), (1, 1)], (), 7, True)
        self.raises(NoVersion, harm, [], (), 7, 5)

    def test_no_other_error(self):
        for thing in odd_things():
            for function, more in [(needed, (thing, thing, thing)), (needed, ([], thing, 5)), (harm, ([(1, 1)], (), 1, thing)),
                                   (is_kept_right, ([(1, 1)], (), 1, thing)), (is_kept_right, (thing, thing, thing, thing))]:
                try:
                    function(*more)
                except StoreError:
                    pass


class Sweeps(Case):
    def drawn_batch(self, draw, commits=16):
        batch = PlainBatch()
        for commit in range(1, commits):
            write_all(batch, commit, drawn_changes(draw))
        return batch

    def plain_takeable(self, batch, asked):
        found = []
        for key in KEYS:
            versions = versions_of(batch, key)
            kept = plain_needed(versions, asked)
            found.extend((key, commit) for commit, _ in reversed(versions) if commit not in kept)
        return found

    def test_what_is_takeable(self):
        for seed in range(25):
            draw = drawn(seed)
            batch = self.drawn_batch(draw)
            for _ in range(6):
                last = 15 + draw.choice((0, 0, 3))
                lot = tuple(s for s in range(last + 1) if draw.random() < 0.15)
                state = batch.state()
                self.same(takeable(batch, lot, last), self.plain_takeable(batch, sorted({*lot, last})))
                self.assertEqual(batch.state(), state)

    def test_sweeps_in_their_order(self):
        """Behind each sweep the first ones are gone, and each asked snapshot tells what it told ahead of it."""
        for seed in range(25):
            draw = drawn(100 + seed)
            batch, last = self.drawn_batch(draw), 15
            lot = tuple(s for s in range(last + 1) if draw.random() < 0.15)
            asked = [*lot, last, last + 1, TOP]
            reads = self.reads(batch, asked)
            while True:
                rows, all_rows = takeable(batch, lot, last), all_versions(batch)
                most = draw.choice((1, 2, 3, 8, 1000))
                self.same(sweep(batch, lot, last, most), min(most, len(rows)))
                gone = rows[:most]
                self.same(all_versions(batch), [row for row in all_rows if row[:2] not in gone])
                self.same(takeable(batch, lot, last), rows[most:])
                self.assertEqual(self.reads(batch, asked), reads)
                self.same(is_sound(batch), True)
                if not rows:
                    break

    def reads(self, batch, asked):
        return [(dict_at(batch, s), [at(batch, s, key) for key in KEYS], range_at(batch, s, "aa", "m")) for s in asked]

    def test_all_goes_where_all_is_gone(self):
        batch = PlainBatch()
        write_all(batch, 1, {key: 1 for key in KEYS})
        write_all(batch, 2, {key: None for key in KEYS})
        self.same(takeable(batch, (1,), 2), [])
        self.same(takeable(batch, (), 2), [(key, commit) for key in KEYS for commit in (1, 2)])
        self.same((sweep(batch, (), 2, 1000), all_versions(batch), batch.held()), (20, [], ()))
        self.same((sweep(batch, (), 2, 1000), takeable(batch, (), 0)), (0, []))

    def test_most(self):
        batch = PlainBatch()
        for commit in range(1, 1010):
            write_all(batch, commit, {"a": commit})
        self.same(len(takeable(batch, (), TOP)), 1008)
        self.same((sweep(batch, (5,), 1009, 1), versions_of(batch, "a")[-1]), (1, (2, 2)))
        self.same(sweep(batch, (), 1009, 1000), 1000)
        self.same((sweep(batch, (), 1009, 1000), versions_of(batch, "a")), (7, [(1009, 1009)]))

    def test_lists_are_new(self):
        batch = self.drawn_batch(drawn(1))
        takeable(batch, (), 15).clear()
        self.assertTrue(takeable(batch, (), 15))

    def test_errors_in_their_order(self):
        batch = self.drawn_batch(drawn(2))
        state = batch.state()
        for thing in odd_things() + [TOP + 1, "15", (15,)]:
            self.raises(NoNumber, takeable, batch, (), thing)
            self.raises(NoNumber, takeable, batch, None, thing)
            self.raises(NoNumber, sweep, batch, None, thing, None)
        for thing in odd_things() + [[3], 3, (16,), (3, 3), (5, 3), (3, True), deep(40)]:
            self.raises(NoSnapshots, takeable, batch, thing, 15)
            self.raises(NoSnapshots, sweep, batch, thing, 15, 5)
            self.raises(NoSnapshots, sweep, batch, thing, 15, None)
        for thing in odd_things() + [0, 1001, "5", (5,), 10 ** 60]:
            self.raises(NoNumber, sweep, batch, (3,), 15, thing)
        self.assertEqual(batch.state(), state)
