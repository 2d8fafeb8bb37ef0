"""Promises 7.1 and 7.2: transactions, and what they have seen."""

from wholeways.errors import BadDealing, BadSeen, Ended, NoKey, NoWorth, StoreError
from wholeways.judges import Dealing
from wholeways.transactions import Transaction

from tests.helping import Case, deep, drawn, odd_things

TOP = 10 ** 18
KEYS = ("a", "b", "bb", "c", "d", "e", "zzzzzzzzzzzz")
WRONG_KEYS = odd_things() + [5, "a.", ("a",), "a" * 13]
WRONG_WORTHS = [thing for thing in odd_things() if thing != -1] + [None, TOP + 1, -TOP - 1, "1", (1,)]
WRONG_SEEN_KEYS = odd_things() + ["a", ["a"], ("b", "a"), ("a", "a"), ("a", 1), ("A",), ("a" * 13,), {"a": True}]
WRONG_RANGES = odd_things() + [("a", "c", ()), [("a", "c", ())], (("a", "c"),), (("c", "a", ()),), (("a", "c", ("d",)),), (("a", "c", []),),
                               (("b", "c", ()), ("a", "c", ())), (("a", "c", ()), ("a", "c", ())), (["a", "c", ()],), (("a", "c", ("b", "a")),),
                               (("a", 1, ()),), (("A", "c", ()),), (("a", "c", None),), (deep(38),)]


class Held(Case):
    def setUp(self):
        self.asked = []

    def begun(self, worths, snapshot=7):
        """A transaction over a plain dict, which tells what it was asked for."""
        def look(key):
            self.asked.append(key)
            return worths.get(key)

        def walk(low, high):
            self.asked.append((low, high))
            return [(key, worths[key]) for key in sorted(worths) if low <= key <= high]

        return Transaction(snapshot, look, walk)

    def state(self, deal):
        return deal.stands_at(), deal.is_open(), deal.saw_keys(), deal.saw_ranges(), deal.wrote()


class Steps(Held):
    def test_against_a_plain_dict(self):
        for seed in range(60):
            draw = drawn(seed)
            worths = {key: draw.randrange(100) for key in KEYS if draw.random() < 0.6}
            kept = dict(worths)
            deal, plain, own, keys, ranges = self.begun(worths), dict(worths), {}, set(), set()
            for turn in range(60):
                key, high = draw.choice(KEYS), draw.choice(KEYS)
                kind = draw.randrange(4)
                if kind == 0:
                    self.same(deal.get(key), plain.get(key))
                    if key not in own:
                        keys.add(key)
                elif kind == 1:
                    told = [(k, plain[k]) for k in sorted(plain) if key <= k <= high]
                    self.same(deal.between(key, high), told)
                    if key <= high:
                        ranges.add((key, high, tuple(k for k in sorted(own) if key <= k <= high)))
                elif kind == 2 and turn % 3 == 0:
                    self.same(deal.put(key, turn), None)
                    plain[key] = own[key] = turn
                elif kind == 3 and turn % 5 == 0:
                    self.same(deal.drop(key), None)
                    plain.pop(key, None)
                    own[key] = None
                self.same(deal.saw_keys(), tuple(sorted(keys)))
                self.same(deal.saw_ranges(), tuple(sorted(ranges)))
                self.same(deal.wrote(), tuple(sorted(own.items())))
                self.same((deal.stands_at(), deal.is_open()), (7, True))
            self.assertEqual(worths, kept)

    def test_what_it_put_and_dropped_itself(self):
        deal = self.begun({"a": 1, "b": 2})
        self.same((deal.put("a", 5), deal.get("a"), deal.drop("a"), deal.get("a"), deal.get("b")), (None, 5, None, None, 2))
        self.same((deal.put("a", -TOP), deal.get("a"), deal.put("b", TOP), deal.get("b")), (None, -TOP, None, TOP))
        self.same((deal.saw_keys(), self.asked), (("b",), ["b"]))
        self.same(deal.wrote(), (("a", -TOP), ("b", TOP)))

    def test_a_key_without_a_worth_is_seen(self):
        deal = self.begun({})
        self.same((deal.get("x"), deal.between("a", "c")), (None, []))
        self.same((deal.saw_keys(), deal.saw_ranges()), (("x",), (("a", "c", ()),)))

    def test_ranges_with_own_keys(self):
        deal = self.begun({"a": 1, "b": 2, "c": 3, "d": 4})
        deal.drop("b")
        deal.put("bb", 9)
        deal.put("e", 5)
        self.same(deal.between("a", "d"), [("a", 1), ("bb", 9), ("c", 3), ("d", 4)])
        deal.put("a", None or 7)
        self.same(deal.between("a", "d"), [("a", 7), ("bb", 9), ("c", 3), ("d", 4)])
        self.same(deal.between("b", "b"), [])
        self.same(deal.between("e", "e"), [("e", 5)])
        told = (("a", "d", ("a", "b", "bb")), ("a", "d", ("b", "bb")), ("b", "b", ("b",)), ("e", "e", ("e",)))
        self.same(deal.saw_ranges(), told)
        self.same(deal.between("a", "d"), [("a", 7), ("bb", 9), ("c", 3), ("d", 4)])
        self.same((deal.saw_ranges(), deal.saw_keys()), (told, ()))

    def test_a_high_ahead_of_its_low(self):
        deal = self.begun({"a": 1, "b": 2})
        deal.put("a", 3)
        self.same((deal.between("b", "a"), deal.saw_ranges()), ([], ()))
        self.same((deal.between("a", "a"), deal.saw_ranges()), ([("a", 3)], (("a", "a", ("a",)),)))

    def test_also_saw(self):
        deal = self.begun({})
        deal.put("c", 1)
        deal.get("b")
        self.same(deal.also_saw(("a", "c"), (("a", "b", ()), ("c", "d", ("d",)))), None)
        self.same((deal.saw_keys(), deal.saw_ranges()), (("a", "b", "c"), (("a", "b", ()), ("c", "d", ("d",)))))
        self.same(deal.also_saw((), ()), None)
        self.same(deal.also_saw(("a",), (("a", "a", ("a",)), ("a", "b", ()))), None)
        self.same(deal.saw_ranges(), (("a", "a", ("a",)), ("a", "b", ()), ("c", "d", ("d",))))
        self.same((deal.wrote(), self.asked), ((("c", 1),), ["b"]))

    def test_dealing(self):
        deal = self.begun({"a": 1})
        deal.get("a")
        self.assertEqual(deal.dealing(None), Dealing(7, None, ("a",), (), ()))
        deal.between("b", "d")
        deal.put("c", 5)
        deal.drop("a")
        told = Dealing(7, 9, ("a",), (("b", "d", ()),), (("a", None), ("c", 5)))
        self.assertEqual(deal.dealing(9), told)
        self.assertIsInstance(deal.dealing(9), Dealing)
        self.same(self.raises(BadDealing, deal.dealing, None).part, "number")
        self.same(self.raises(BadDealing, deal.dealing, 7).part, "number")
        deal.end()
        self.assertEqual(deal.dealing(9), told)

    def test_lists_are_new(self):
        deal = self.begun({"a": 1})
        deal.between("a", "b").clear()
        self.same(deal.between("a", "b"), [("a", 1)])
        kept = [("a", 1)]
        other = Transaction(0, lambda key: 1, lambda low, high: kept)
        other.put("a", 2)
        other.put("b", 3)
        self.same(other.between("a", "c"), [("a", 2), ("b", 3)])
        self.same(kept, [("a", 1)])

    def test_equal_to_itself_alone(self):
        self.assertFalse(self.begun({}) == self.begun({}))


class Wrong(Held):
    def test_ended_ahead_of_all(self):
        deal = self.begun({"a": 1})
        deal.get("a")
        deal.between("a", "c")
        deal.put("b", 2)
        self.same((deal.is_open(), deal.end(), deal.is_open()), (True, None, False))
        told = self.state(deal)
        for thing in ["a", None, 5, deep(40)]:
            for method, more in [(deal.get, (thing,)), (deal.between, (thing, thing)), (deal.put, (thing, thing)), (deal.drop, (thing,)),
                                 (deal.also_saw, (thing, thing))]:
                self.raises(Ended, method, *more)
        self.raises(Ended, deal.end)
        self.raises(Ended, deal.put, "a", 1)
        self.raises(Ended, deal.also_saw, (), ())
        self.same(self.state(deal), told)
        self.same(told, (7, False, ("a",), (("a", "c", ()),), (("b", 2),)))

    def test_no_key(self):
        deal = self.begun({"a": 1})
        for thing in WRONG_KEYS:
            for method, more in [(deal.get, (thing,)), (deal.drop, (thing,)), (deal.put, (thing, 1)), (deal.put, (thing, None)),
                                 (deal.between, (thing, "a")), (deal.between, ("a", thing)), (deal.between, (thing, None)),
                                 (deal.between, ("z", thing))]:
                self.raises(NoKey, method, *more)
        self.same((self.state(deal), self.asked), ((7, True, (), (), ()), []))

    def test_no_worth(self):
        deal = self.begun({"a": 1})
        for thing in WRONG_WORTHS:
            self.raises(NoWorth, deal.put, "a", thing)
        self.same(self.state(deal), (7, True, (), (), ()))

    def test_bad_seen(self):
        deal = self.begun({"a": 1})
        for thing in WRONG_SEEN_KEYS:
            if thing != ():
                self.raises(BadSeen, deal.also_saw, thing, ())
                self.raises(BadSeen, deal.also_saw, thing, None)
        for thing in WRONG_RANGES:
            if thing != ():
                self.raises(BadSeen, deal.also_saw, ("a",), thing)
        self.same(self.state(deal), (7, True, (), (), ()))

    def test_no_other_error(self):
        deal = self.begun({})
        for thing in odd_things():
            for method, more in [(deal.get, (thing,)), (deal.between, (thing, thing)), (deal.put, ("a", thing)), (deal.drop, (thing,)),
                                 (deal.also_saw, (thing, thing)), (deal.also_saw, ((), thing)), (deal.dealing, (thing,))]:
                try:
                    method(*more)
                except StoreError:
                    pass
