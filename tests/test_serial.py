"""Promises 8.1 to 8.3: the check of serial order."""

from itertools import permutations

from wholeways.errors import (BadSeen, BadWrites, NoNumber, NoSnapshot, NotOpen, NotRemembered, Refused, StoreError)
from wholeways.judges import Dealing, is_serial_order, ring, serial_order
from wholeways.serial import Check

from tests.helping import Case, drawn, odd_things
from tests.test_judges import KEYS, plain_seen, plain_tie, some_keys, some_range
from tests.test_transactions import WRONG_RANGES, WRONG_SEEN_KEYS

WRONG_WRITES = odd_things() + [("a", 1), [("a", 1)], (("a",),), (("a", 1, 1),), (["a", 1],), (("A", 1),), (("a", True),), (("a", "1"),),
                               (("a", 10 ** 18 + 1),), (("b", 1), ("a", 1)), (("a", 1), ("a", 2)), (("a", 1), ("a", None)), ({"a": 1},),
                               {"a": 1}, "a", (("a", 1), 5)]


class Account:
    """All entries ever, and what the check is to tell of them, by the words of 8."""

    def __init__(self, last):
        self.last = last
        self.many = 0
        self.under_way = {}
        self.committed = {}
        self.gone = set()

    def opens(self, snapshot):
        self.under_way[self.many] = snapshot
        self.many += 1
        return self.many - 1

    def dealing(self, entry, keys, ranges, writes):
        return Dealing(self.under_way[entry], self.last + 1 if writes else None, keys, ranges, writes)

    def links(self, dealings):
        return {one: [other for other in sorted(dealings) if other != one and plain_tie(dealings[one], dealings[other])]
                for one in dealings}

    def ring(self, entry, dealing):
        """The first of the shortest rings that begin with an entry, found by trying all ways, level by level."""
        links = self.links({**self.committed, entry: dealing})
        ways = [(entry,)]
        while ways:
            closed = [way for way in ways if entry in links[way[-1]]]
            if closed:
                return min(closed)
            met = set()
            further = []
            for way in sorted(ways):
                for other in links[way[-1]]:
                    if other not in way and other not in met:
                        met.add(other)
                        further.append((*way, other))
            ways = [way for way in further if not any(way[-1] in elder[:-1] for elder in ways)]
        return None

    def commits(self, entry, dealing):
        del self.under_way[entry]
        self.committed[entry] = dealing
        if dealing.number is not None:
            self.last = dealing.number

    def remembered(self):
        """Walks from the late writers over the ties of all entries ever committed."""
        links = self.links(self.committed)
        todo = [entry for entry, dealing in self.committed.items() if dealing.number is not None
                and any(dealing.number > snapshot for snapshot in self.under_way.values())]
        met = set(todo)
        while todo:
            for other in links[todo.pop()]:
                if other not in met:
                    met.add(other)
                    todo.append(other)
        return tuple(sorted(met))


def drawn_deed(draw, chance):
    keys = some_keys(draw, chance)
    ranges = tuple(sorted({some_range(draw) for _ in range(draw.choice((0, 0, 0, 1)))}))
    writes = tuple((key, draw.choice((None, 1, 2))) for key in some_keys(draw, chance))
    if draw.random() < 0.2:
        return some_keys(draw, 0.5), ranges, ()
    return keys, ranges, writes


def state(check):
    return check.last(), check.open_entries(), check.remembered()


class Plays(Case):
    def test_drawn_plays(self):
        self.count = {"refused": 0, "long": 0, "looker": 0, "forgot": 0, "committed": 0}
        for seed in range(450):
            self.play(drawn(seed), draw_last=seed % 4, chance=(0.1, 0.17, 0.25)[seed % 3])
        for name, many in self.count.items():
            self.assertGreater(many, 20, name)

    def play(self, draw, draw_last, chance):
        check, account = Check(draw_last), Account(draw_last)
        for turn in range(45):
            kind = draw.random()
            if kind < 0.5 or not account.under_way:
                self.open_one(draw, check, account)
            elif kind < 0.9:
                self.commit_one(draw, check, account, chance)
            else:
                entry = draw.choice(sorted(account.under_way))
                self.same(check.gives_up(entry), None)
                del account.under_way[entry]
            self.held(check, account)
        history = tuple(account.committed.values())
        self.serial(history, draw_last)

    def held(self, check, account):
        told = account.remembered()
        self.count["forgot"] += len(told) < len(account.committed)
        self.same(state(check), (account.last, tuple(sorted(account.under_way)), told))
        # what was forgotten once is forgotten for good
        self.assertFalse(account.gone & set(told))
        account.gone |= set(account.committed) - set(told)
        for entry in told:
            self.rings_through(check, account, entry)

    def open_one(self, draw, check, account):
        least = min(account.under_way.values(), default=account.last)
        for wrong in (least - 1, account.last + 1, -1):
            self.raises(NoSnapshot, check.opens, wrong)
        snapshot = draw.randrange(least, account.last + 1)
        self.same(check.opens(snapshot), account.opens(snapshot))

    def commit_one(self, draw, check, account, chance):
        entry = draw.choice(sorted(account.under_way))
        deed = drawn_deed(draw, chance)
        dealing = account.dealing(entry, *deed)
        ring_told = account.ring(entry, dealing)
        before, twin = state(check), check.copy()
        if ring_told is not None:
            self.count["refused"] += 1
            self.count["long"] += len(ring_told) > 2
            self.count["looker"] += dealing.number is None
            for method in (check.would_commit, check.commits, check.would_commit):
                self.same(self.raises(Refused, method, entry, *deed).ring, ring_told)
                self.same(state(check), before)
            return
        self.count["committed"] += 1
        self.same(check.would_commit(entry, *deed), dealing.number)
        self.same(check.would_commit(entry, *deed), dealing.number)
        self.same(state(check), before)
        self.same(check.commits(entry, *deed), dealing.number)
        account.commits(entry, dealing)
        self.same(state(twin), before)
        self.same(twin.commits(entry, *deed), dealing.number)
        self.same(state(twin), state(check))

    def rings_through(self, check, account, entry):
        """What could_ring tells leads to a ring of ties through the entry, and is refused."""
        late, keys, writes = check.could_ring(entry)
        self.assertIn(late, account.under_way)
        self.same([worth for _, worth in writes], [0] * len(writes))
        dealing = account.dealing(late, keys, (), writes)
        links = account.links({**account.committed, late: dealing})
        self.assertIn(entry, self.beyond(links, late))
        self.assertIn(late, self.beyond(links, entry, late))
        self.raises(Refused, check.would_commit, late, keys, (), writes)

    def beyond(self, links, start, last=None):
        """Where ties lead from start; nothing leads on behind last."""
        met, todo = set(), [start]
        while todo:
            entry = todo.pop()
            for other in links[entry] if entry != last else []:
                if other not in met:
                    met.add(other)
                    todo.append(other)
        return met

    def serial(self, history, last):
        """The committed ones, renumbered from 1 on, have a serial order; ties never make a ring."""
        moved = sorted(((d.snapshot if d.number is None else d.number) - last, d.number is None, k) for k, d in enumerate(history))
        rows = []
        for _, _, k in moved:
            d = history[k]
            rows.append(Dealing(d.snapshot - last, None if d.number is None else d.number - last, d.gets, d.ranges, d.writes))
        order = serial_order(tuple(rows))
        self.same(ring(tuple(rows)), None)
        self.same(is_serial_order(tuple(rows), order), True)


class Ordinary(Case):
    def test_the_example(self):
        c = Check(0)
        told = (c.opens(0), c.opens(0), c.opens(0), c.commits(0, (), (), (("a", 5),)), c.commits(1, ("a",), (), (("b", 6),)), c.remembered())
        self.same(told, (0, 1, 2, 1, 2, (0, 1)))

    def test_numbers_go_on_from_the_last(self):
        check = Check(10 ** 40)
        self.same((check.last(), check.open_entries(), check.remembered()), (10 ** 40, (), ()))
        self.same(check.opens(10 ** 40), 0)
        self.same((check.commits(0, (), (), (("a", None),)), check.last()), (10 ** 40 + 1, 10 ** 40 + 1))
        self.same((check.opens(10 ** 40 + 1), check.commits(1, ("a",), (), ()), check.last()), (1, None, 10 ** 40 + 1))

    def test_lost_update_is_refused(self):
        check = Check(0)
        check.opens(0), check.opens(0)
        check.commits(0, ("a",), (), (("a", 1),))
        self.same(self.raises(Refused, check.commits, 1, ("a",), (), (("a", 2),)).ring, (1, 0))
        self.same(state(check), (1, (1,), (0,)))
        self.same(check.commits(1, (), (), (("a", 2),)), 2)
        self.same(state(check), (2, (), ()))

    def test_a_range_is_seen_but_its_own_keys(self):
        for own, goes in [((), False), (("b",), True)]:
            check = Check(0)
            check.opens(0), check.opens(0)
            check.commits(0, ("x",), (), (("b", 1),))
            seen = (("a", "c", own),)
            if goes:
                self.same(check.commits(1, (), seen, (("x", 1),)), 2)
            else:
                self.same(self.raises(Refused, check.commits, 1, (), seen, (("x", 1),)).ring, (1, 0))

    def test_a_looker_that_is_refused(self):
        """Two writers that may stand in one order alone, and a looker that saw the other one."""
        check = Check(0)
        check.opens(0), check.opens(0)
        check.commits(1, (), (), (("b", 1),))
        check.opens(1)
        check.commits(0, ("b",), (), (("a", 1),))
        self.same(check.remembered(), (0, 1))
        self.same(self.raises(Refused, check.commits, 2, ("a", "b"), (), ()).ring, (2, 0, 1))
        self.same(check.commits(2, ("b",), (), ()), None)

    def test_a_ring_through_a_looker(self):
        check = Check(0)
        check.opens(0), check.opens(0)
        check.commits(0, (), (), (("a", 1),))
        check.opens(1)
        self.same(check.commits(2, ("a", "b"), (), ()), None)
        self.same(check.remembered(), (0, 2))
        self.same(self.raises(Refused, check.commits, 1, ("a",), (), (("b", 1),)).ring, (1, 0, 2))
        self.same(check.could_ring(2)[0], 1)

    def test_the_first_of_the_shortest(self):
        check = Check(0)
        for _ in range(5):
            check.opens(0)
        for entry in (3, 0, 2):
            check.commits(entry, ("x",), (), (("k" + "abcd"[entry], 1),))
        self.same(self.raises(Refused, check.commits, 1, ("ka", "kc", "kd"), (), (("x", 1),)).ring, (1, 0))
        self.same(self.raises(Refused, check.commits, 4, ("kc", "kd"), (), (("x", 1),)).ring, (4, 2))

    def test_gives_up_as_if_never(self):
        check, other = Check(3), Check(3)
        for one in (check, other):
            one.opens(3), one.opens(3)
        check.opens(3)
        check.gives_up(2)
        other.opens(3)
        other.gives_up(2)
        for one in (check, other):
            one.commits(0, (), (), (("a", 1),))
        self.same(state(check), (4, (1,), (0,)))
        self.same((check.gives_up(1), state(check)), (None, (4, (), ())))

    def test_forgotten_when_none_is_open(self):
        check = Check(0)
        check.opens(0), check.opens(0)
        for k in range(2, 30):
            self.same(check.opens(k - 2), k)
            check.commits(k, ("a",), (), (("a", k),)) if k == 2 else check.commits(k, (), (), (("b", k),))
            self.same(check.remembered(), tuple(range(2, k + 1)))
        check.gives_up(0)
        self.same(len(check.remembered()), 28)
        check.gives_up(1)
        self.same(state(check), (28, (), ()))

    def test_copy_goes_on_apart(self):
        check = Check(0)
        check.opens(0), check.opens(0)
        check.commits(0, (), (), (("a", 1),))
        twin = check.copy()
        self.assertFalse(check == twin)
        self.same((twin.opens(1), twin.commits(1, (), (), (("a", 2),))), (2, 2))
        self.same(state(twin), (2, (2,), (1,)))
        self.same(state(check), (1, (1,), (0,)))
        self.same((check.opens(0), check.commits(2, ("a",), (), ())), (2, None))
        self.same(self.raises(Refused, twin.commits, 2, ("a",), (), (("a", 2),)).ring, (2, 1))
        check.gives_up(1)
        self.same(state(twin), (2, (2,), (1,)))


class Wrong(Case):
    def setUp(self):
        self.check = Check(5)
        self.check.opens(5), self.check.opens(5), self.check.opens(5)
        self.check.commits(1, ("a",), (), (("a", 1),))
        self.check.commits(2, (), (), (("b", 1),))
        self.told = state(self.check)
        self.same(self.told, (7, (0,), (1, 2)))

    def tearDown(self):
        self.assertEqual(state(self.check), self.told)
        self.same(self.check.opens(7), 3)

    def test_no_number(self):
        self.raises_all(NoNumber, Check, odd_things() + ["1", (1,), [1]])

    def test_no_snapshot(self):
        self.raises_all(NoSnapshot, self.check.opens, odd_things() + [4, 8, 0, "5", (5,), 10 ** 60])
        alone = Check(1)
        self.raises_all(NoSnapshot, alone.opens, odd_things() + [0, 2])
        alone.opens(1)
        self.raises_all(NoSnapshot, alone.opens, odd_things() + [0, 2])

    def test_snapshots_that_are_let(self):
        for snapshot in (5, 6, 7):
            self.same(self.check.copy().opens(snapshot), 3)

    def test_not_open(self):
        for thing in odd_things() + [1, 2, 3, -1, "0", (0,), 10 ** 60, False]:
            self.raises(NotOpen, self.check.gives_up, thing)
            for method in (self.check.commits, self.check.would_commit):
                self.raises(NotOpen, method, thing, (), (), ())
                self.raises(NotOpen, method, thing, None, None, None)

    def test_bad_seen(self):
        for method in (self.check.commits, self.check.would_commit):
            for thing in WRONG_SEEN_KEYS:
                if thing != ():
                    self.raises(BadSeen, method, 0, thing, (), ())
                    self.raises(BadSeen, method, 0, thing, None, None)
            for thing in WRONG_RANGES:
                self.raises(BadSeen, method, 0, ("a",), thing, ())
                self.raises(BadSeen, method, 0, ("a",), thing, None)

    def test_bad_writes(self):
        for method in (self.check.commits, self.check.would_commit):
            for thing in WRONG_WRITES:
                self.raises(BadWrites, method, 0, (), (), thing)
                self.raises(BadWrites, method, 0, ("a", "b"), (("a", "b", ()),), thing)

    def test_refused(self):
        for method in (self.check.commits, self.check.would_commit):
            self.same(self.raises(Refused, method, 0, ("a",), (), (("a", 1),)).ring, (0, 1))

    def test_not_remembered(self):
        self.raises_all(NotRemembered, self.check.could_ring, odd_things() + [0, 3, -1, "1", (1,), 10 ** 60])
        other = Check(0)
        other.opens(0)
        other.commits(0, (), (), (("a", 1),))
        self.raises(NotRemembered, other.could_ring, 0)

    def test_no_other_error(self):
        for thing in odd_things():
            check = self.check.copy()
            for method, more in [(Check, (thing,)), (check.opens, (thing,)), (check.gives_up, (thing,)), (check.could_ring, (thing,)),
                                 (check.commits, (thing, thing, thing, thing)), (check.would_commit, (0, thing, thing, thing)),
                                 (check.would_commit, (0, (), thing, thing)), (check.would_commit, (0, (), (), thing))]:
                try:
                    method(*more)
                except StoreError:
                    pass


class EveryRing(Case):
    def test_refused_exactly_if_a_ring_is_made(self):
        """Over all tuples of entries, in small plays: the account's own search is held against all orders."""
        for seed in range(120):
            draw = drawn(1000 + seed)
            check, account = Check(0), Account(0)
            for _ in range(5):
                check.opens(0)
                account.opens(0)
            for entry in range(5):
                deed = drawn_deed(draw, 0.35)
                dealing = account.dealing(entry, *deed)
                links = account.links({**account.committed, entry: dealing})
                found = [(entry, *more) for many in range(1, 5) for more in permutations(sorted(account.committed), many)
                         if all(b in links[a] for a, b in zip((entry, *more), (*more, entry)))]
                try:
                    check.commits(entry, *deed)
                    account.commits(entry, dealing)
                    self.same(found, [])
                except Refused as e:
                    self.same(e.ring, found[0])


class Seen(Case):
    def test_plain_seen(self):
        self.same([plain_seen(Dealing(0, None, ("a",), (("b", "c", ("c",)),), ()), key) for key in KEYS], [True, True, False, False])
