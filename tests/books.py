"""A store over plain dicts of the commits, against which the real one is held."""

from wholeways.errors import NoRoom, Refused, TooLarge
from wholeways.judges import Dealing
from wholeways.store import Store

from tests.test_serial import Account
from tests.test_vacuum import plain_needed

KEYS = ("a", "aa", "b", "c", "d", "dz", "m", "zzzzzzzzzzzz")


class Deal:
    def __init__(self, snapshot):
        self.snapshot = snapshot
        self.own = {}
        self.keys = set()
        self.ranges = set()

    def seen(self):
        return self.snapshot, tuple(sorted(self.keys)), tuple(sorted(self.ranges)), tuple(sorted(self.own.items()))


class Books:
    """What 7, 8, 10 and 11 say that a store tells; commits are the dicts behind each commit, from that of none on."""

    def __init__(self, case, keys=KEYS, at_once=1):
        self.case = case
        self.keys = keys
        self.at_once = at_once
        self.worths = [{}]
        self.versions = {}
        self.counts = {}
        self.opened()

    def opened(self):
        self.base = len(self.worths) - 1
        self.account = Account(self.base)
        self.deals = {}
        self.pending = None

    def count(self, name):
        self.counts[name] = self.counts.get(name, 0) + 1

    def asked(self):
        return sorted({deal.snapshot for deal in self.deals.values()} | {self.account.last})

    def needed(self, key):
        return plain_needed(self.versions[key], self.asked())

    def takeable(self):
        return [(key, commit) for key in sorted(self.versions) for commit, _ in reversed(self.versions[key])
                if commit not in self.needed(key)]

    def rows(self):
        return [(key, commit, mark) for key in sorted(self.versions) for commit, mark in self.versions[key]]

    def now(self):
        return {key: self.worths[-1][key] for key in sorted(self.worths[-1]) if self.worths[-1][key] is not None}

    def at(self, deal, key):
        if key in deal.own:
            return deal.own[key]
        deal.keys.add(key)
        return self.worths[deal.snapshot].get(key)

    def between(self, deal, low, high):
        if low > high:
            return []
        own = tuple(key for key in sorted(deal.own) if low <= key <= high)
        deal.ranges.add((low, high, own))
        found = {**self.worths[deal.snapshot], **deal.own}
        return [(key, found[key]) for key in sorted(found) if low <= key <= high and found[key] is not None]

    def dealing(self, number):
        _, keys, ranges, writes = self.deals[number].seen()
        return Dealing(self.deals[number].snapshot, self.account.last + 1 if writes else None, keys, ranges, writes)

    def committed(self, number):
        dealing = self.dealing(number)
        self.account.commits(number, dealing)
        del self.deals[number]
        if dealing.number is not None:
            self.worths.append({**self.worths[-1], **dict(dealing.writes)})
            for key, mark in dealing.writes:
                self.versions.setdefault(key, []).insert(0, (dealing.number, mark))
        return dealing.number

    def taken(self, many):
        for key, commit in self.takeable()[:many]:
            self.versions[key] = [version for version in self.versions[key] if version[0] != commit]

    def step(self, draw, store):
        """One call that the store and the books are asked alike."""
        numbers = sorted(self.deals)
        way = draw.random()
        if not numbers or (way < 0.12 and len(numbers) < 5):
            number = store.begin()
            self.case.same(number, self.account.opens(self.account.last))
            self.deals[number] = Deal(self.account.last)
        elif way < 0.6:
            self.work(draw, store, draw.choice(numbers))
        elif way < 0.83:
            self.commit(draw, store, draw.choice(numbers))
        elif way < 0.86:
            number = draw.choice(numbers)
            self.case.same(store.abort(number), None)
            del self.deals[number]
            del self.account.under_way[number]
        else:
            self.keep_house(draw, store)

    def work(self, draw, store, number):
        deal, key, way = self.deals[number], draw.choice(self.keys), draw.random()
        if way < 0.35:
            self.case.same(store.get(number, key), self.at(deal, key))
        elif way < 0.5:
            low, high = self.drawn_range(draw) if draw.random() < 0.9 else (key, draw.choice(self.keys))
            self.case.same(store.between(number, low, high), self.between(deal, low, high))
        elif way < 0.85:
            for other in [key] + [draw.choice(self.keys) for _ in range(draw.randrange(self.at_once))]:
                worth = draw.choice((0, 1, 5, -10 ** 18, 10 ** 18))
                self.case.same(store.put(number, other, worth), None)
                deal.own[other] = worth
        elif way < 0.95:
            self.case.same(store.drop(number, key), None)
            deal.own[key] = None
        else:
            low, high = self.drawn_range(draw)
            self.case.same(store.also_saw(number, (key,), ((low, high, ()),)), None)
            deal.keys.add(key)
            deal.ranges.add((low, high, ()))

    def drawn_range(self, draw):
        return tuple(sorted((draw.choice(self.keys), draw.choice(self.keys))))

    def commit(self, draw, store, number):
        call = store.commit if draw.random() < 0.4 else store.commit_soon
        ring = self.account.ring(number, self.dealing(number))
        self.pending = self.dealing(number)
        try:
            told = call(number)
        except Refused as e:
            self.count("refused")
            self.case.same(e.ring, ring)
        except (TooLarge, NoRoom) as e:
            self.count(e.__class__.__name__)
            self.case.same(ring, None)
        else:
            self.case.same(ring, None)
            self.case.same(told, self.committed(number))
            self.count("looker" if told is None else "commit")
        self.pending = None

    def keep_house(self, draw, store):
        way = draw.random()
        if way < 0.3:
            most, many = draw.choice((1, 2, 5, 1000)), len(self.takeable())
            try:
                self.case.same(store.sweep(most), min(most, many))
                self.taken(most)
            except TooLarge:
                self.count("large sweep")
        elif way < 0.4:
            many = len(self.takeable())
            try:
                self.case.same(store.vacuum(), many)
                self.taken(many)
            except TooLarge:
                self.count("large sweep")
                while len(self.takeable()) > store.debt():
                    self.taken(8)
        elif way < 0.5:
            self.case.same(store.checkpoint(), None)
            self.case.same((store.dirty(), store.lasting()), ((), self.account.last))
        elif way < 0.6:
            self.case.same(store.force(), None)
            self.case.same(store.lasting(), self.account.last)
        elif way < 0.8 and store.dirty():
            page = draw.choice(store.dirty())
            self.case.same((store.write_out(page), store.write_out(page), page in store.dirty()), (True, False, False))
        elif store.disk().waiting():
            store.disk().reach(draw.choice(list(store.disk().waiting())))

    def held(self, store):
        """All that the store tells without being changed."""
        self.case.same(store.open_ones(), {number: deal.snapshot for number, deal in self.deals.items()})
        self.case.same(store.open_snapshots(), tuple(sorted({deal.snapshot for deal in self.deals.values()})))
        self.case.same((store.last(), store.debt()), (self.account.last, len(self.takeable())))
        self.case.same(store.now(), self.now())
        self.case.same(store.versions(), self.rows())
        self.case.same(store.ties_of_now(), (self.account.remembered(), tuple(sorted(self.deals))))
        for number, deal in self.deals.items():
            self.case.same(store.seen(number), deal.seen())
            self.case.same((store.stands_at(number), store.wrote(number)), (deal.snapshot, deal.seen()[3]))

    def lasts(self, store):
        """The last commit whose record, by the log's own notes, is no later than the last forced one."""
        forced = store._pages.forced()
        notes = [(number, note) for number, note in store._pages.notes() if note[0] == "commit"]
        waiting = [note[1] for number, note in notes if number > forced]
        self.case.same(store.lasting(), min(waiting, default=self.account.last + 1) - 1)
        return store.lasting()

    def behind(self, disk, meaning, number, least):
        """Behind a cut: the meaning is that of a prefix of the commits with all that were to last; the rest is forgotten."""
        if self.pending is not None and self.pending.number is not None:
            self.worths.append({**self.worths[-1], **dict(self.pending.writes)})
        self.case.assertLessEqual(least, number)
        self.case.assertLess(number, len(self.worths))
        self.worths = self.worths[:number + 1]
        self.case.same(meaning, self.now())

    def opened_again(self, disk):
        """The next opening shows just what lies there, and goes on with the next number."""
        store = Store(disk)
        self.opened()
        self.case.same((store.last(), store.lasting()), (self.base, self.base))
        self.case.same(store.now(), self.now())
        self.versions = {}
        for key, commit, mark in store.versions():
            self.versions.setdefault(key, []).append((commit, mark))
            self.case.assertLessEqual(commit, self.base)
            self.case.same(self.worths[commit].get(key), mark)
        self.held(store)
        return store
