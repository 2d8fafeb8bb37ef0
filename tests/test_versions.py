"""Promises 6.1 and 6.2: versions of keys, and what each snapshot sees."""

from wholeways.errors import NoChanges, NoCommit, NoKey, NoRoom, NoSnapshot, NotThere, StoreError
from wholeways.tree import all_spots, is_sound, look
from wholeways.versions import all_versions, at, dict_at, range_at, take_version, versions_of, write_all

from tests.helping import Case, PlainBatch, deep, drawn, odd_things

TOP = 10 ** 18
KEYS = ("a", "aa", "ab", "b", "bzzzzzzzzzzz", "c", "m", "mm", "x", "z" * 12)

WRONG_COMMITS = odd_things() + [0, TOP + 1, "1", (1,), [1]]
WRONG_SNAPSHOTS = odd_things() + [TOP + 1, "1", (1,), [0]]
WRONG_KEYS = odd_things() + [5, "a.", ("a",), "A", "a" * 13, ""]


def drawn_changes(draw):
    return {key: draw.choice((None, 0, 1, -TOP, TOP)) for key in KEYS if draw.random() < 0.3}


def without_gone(worths):
    return {key: worth for key, worth in worths.items() if worth is not None}


def small():
    """Commits 2, 5 and 9 of a few keys."""
    batch = PlainBatch()
    write_all(batch, 2, {"a": 1, "c": 3})
    write_all(batch, 5, {"b": 2, "a": None})
    write_all(batch, 9, {"a": 4})
    return batch


class Writing(Case):
    def test_where_versions_lie(self):
        batch = PlainBatch()
        self.same(write_all(batch, 7, {"b": 5, "a": None}), None)
        self.same(write_all(batch, 8, {"b": -5}), None)
        self.same(all_spots(batch), [("a", -7, None), ("b", -8, -5), ("b", -7, 5)])
        self.same(look(batch, ("b", -8)), (True, -5))

    def test_the_step_of_versions(self):
        """At each snapshot of the written commits what is seen is the plain dict of the changes up to it."""
        for seed in range(8):
            draw, batch, plain = drawn(seed), PlainBatch(), [{}]
            rows = []
            for commit in range(1, 26):
                changes = drawn_changes(draw)
                kept = dict(changes)
                write_all(batch, commit, changes)
                self.assertEqual(changes, kept)
                plain.append({**plain[-1], **changes})
                rows.extend((key, commit, mark) for key, mark in changes.items())
                self.same(is_sound(batch), True)
            for snapshot, worths in enumerate(plain):
                self.held_against(draw, batch, snapshot, worths)
            self.held_against(draw, batch, TOP, plain[-1])
            told = sorted(rows, key=lambda row: (row[0], -row[1]))
            self.same(all_versions(batch), told)
            for key in KEYS:
                self.same(versions_of(batch, key), [row[1:] for row in told if row[0] == key])

    def held_against(self, draw, batch, snapshot, worths):
        worths = without_gone(worths)
        self.assertEqual(dict_at(batch, snapshot), worths)
        for key in (*KEYS, "n"):
            self.same(at(batch, snapshot, key), worths.get(key))
        for _ in range(6):
            low, high = draw.choice((*KEYS, "n")), draw.choice((*KEYS, "n"))
            told = [(key, worths[key]) for key in sorted(worths) if low <= key <= high]
            self.same(range_at(batch, snapshot, low, high), told)

    def test_commits_need_not_stand_in_a_row(self):
        batch = small()
        told = {0: {}, 1: {}, 2: {"a": 1, "c": 3}, 4: {"a": 1, "c": 3}, 5: {"b": 2, "c": 3}, 8: {"b": 2, "c": 3},
                9: {"a": 4, "b": 2, "c": 3}, TOP: {"a": 4, "b": 2, "c": 3}}
        for snapshot, worths in told.items():
            self.assertEqual(dict_at(batch, snapshot), worths)

    def test_least_and_greatest(self):
        batch = PlainBatch()
        write_all(batch, TOP, {"z" * 12: TOP, "a": -TOP})
        write_all(batch, 1, {"a": 5})
        self.same(versions_of(batch, "a"), [(TOP, -TOP), (1, 5)])
        self.same((at(batch, TOP - 1, "a"), at(batch, TOP, "a"), at(batch, 0, "a")), (5, -TOP, None))
        self.same(range_at(batch, TOP, "a", "z" * 12), [("a", -TOP), ("z" * 12, TOP)])

    def test_no_changes_at_all(self):
        batch = small()
        state = batch.state()
        write_all(batch, 10, {})
        self.assertEqual(batch.state(), state)

    def test_the_order_of_a_dict_does_not_matter(self):
        one, two = PlainBatch(), PlainBatch()
        rows = [("k" + chr(97 + k), k) for k in range(26)]
        write_all(one, 1, dict(rows))
        write_all(two, 1, dict(reversed(rows)))
        self.assertEqual(one.state(), two.state())

    def test_written_again(self):
        batch = small()
        write_all(batch, 9, {"a": None})
        self.same(versions_of(batch, "a"), [(9, None), (5, None), (2, 1)])


class Taking(Case):
    def test_one_goes(self):
        batch = small()
        self.same(take_version(batch, "a", 5), None)
        self.same(versions_of(batch, "a"), [(9, 4), (2, 1)])
        self.same(at(batch, 6, "a"), 1)
        self.same(all_versions(batch), [("a", 9, 4), ("a", 2, 1), ("b", 5, 2), ("c", 2, 3)])

    def test_all_go(self):
        draw, batch = drawn(1), PlainBatch()
        for commit in range(1, 20):
            write_all(batch, commit, drawn_changes(draw))
        rows = all_versions(batch)
        draw.shuffle(rows)
        for key, commit, _ in rows:
            take_version(batch, key, commit)
            self.same(is_sound(batch), True)
        self.same((all_versions(batch), batch.held(), dict_at(batch, 9)), ([], (), {}))

    def test_not_there(self):
        batch = small()
        state = batch.state()
        for key, commit in [("a", 3), ("b", 2), ("n", 1), ("a", TOP), ("a", 1)]:
            self.raises(NotThere, take_version, batch, key, commit)
        self.raises(NotThere, take_version, PlainBatch(), "a", 1)
        self.assertEqual(batch.state(), state)


class Wrong(Case):
    def setUp(self):
        self.batch = small()
        self.state = self.batch.state()

    def tearDown(self):
        self.assertEqual(self.batch.state(), self.state)

    def test_no_commit(self):
        for thing in WRONG_COMMITS:
            self.raises(NoCommit, write_all, self.batch, thing, {"a": 1})
            self.raises(NoCommit, write_all, self.batch, thing, None)
            self.raises(NoCommit, take_version, self.batch, "a", thing)

    def test_no_changes(self):
        wrong = [thing for thing in odd_things() if thing not in ({}, {"a": 1})]
        wrong += [{"a": True}, {"a": "1"}, {"A": 1}, {1: 1}, {("a",): 1}, {"a": TOP + 1}, {"a": -TOP - 1}, {"a": 1, "b": ()}, {"": 1},
                  {"a" * 13: 1}, {"b": 1, None: 1}, [("a", 1)], {b"a": 1}, {"a": deep(38)}, {k: 1 for k in range(10000)}]
        for thing in wrong:
            self.raises(NoChanges, write_all, self.batch, 10, thing)

    def test_no_snapshot(self):
        for thing in WRONG_SNAPSHOTS:
            self.raises(NoSnapshot, at, self.batch, thing, "A")
            self.raises(NoSnapshot, range_at, self.batch, thing, "A", "A")
            self.raises(NoSnapshot, dict_at, self.batch, thing)
            self.raises(NoSnapshot, dict_at, PlainBatch(), thing)

    def test_no_key(self):
        for thing in WRONG_KEYS:
            self.raises(NoKey, at, self.batch, 1, thing)
            self.raises(NoKey, range_at, self.batch, 1, thing, "a")
            self.raises(NoKey, range_at, self.batch, 1, "a", thing)
            self.raises(NoKey, versions_of, self.batch, thing)
            self.raises(NoKey, take_version, self.batch, thing, None)
            self.raises(NoKey, take_version, self.batch, thing, 5)

    def test_no_room(self):
        batch = PlainBatch(3)
        with self.assertRaises(NoRoom):
            write_all(batch, 1, {"k" + chr(97 + k): k for k in range(26)})

    def test_answers_are_new(self):
        for function, *more in [(dict_at, 9), (all_versions,), (versions_of, "a"), (range_at, 9, "a", "c")]:
            function(self.batch, *more).clear()
            self.assertTrue(function(self.batch, *more))

    def test_no_other_error(self):
        for thing in odd_things():
            for function, more in [(write_all, (thing, thing)), (write_all, (10, thing)), (at, (thing, thing)), (at, (1, thing)),
                                   (range_at, (1, thing, thing)), (range_at, (1, "a", thing)), (versions_of, (thing,)),
                                   (take_version, (thing, thing)), (take_version, ("a", thing)), (dict_at, (thing,))]:
                try:
                    function(self.batch.twin(), *more)
                except StoreError:
                    pass
