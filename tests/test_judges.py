"""Promises 9.1 to 9.4: dealings, histories, and what is judged of them."""

from itertools import permutations

from wholeways.errors import BadDealing, BadHistory, NoIndex, NoKey, NoNumber, NoOrder, NotSerial, StoreError, TooMany
from wholeways.judges import (Dealing, first_failure, has_seen, is_ring, is_serial_order, lost_updates, many_orders,
                              prefix, ring, sees, serial_order, ties, worths_behind)

from tests.helping import Case, deep, drawn, odd_things

KEYS = ("a", "b", "c", "d")
BEST = "z" * 12


def look(snapshot, gets, ranges=()):
    """A looker."""
    return Dealing(snapshot, None, gets, ranges, ())


def plain_seen(dealing, key):
    """Whether a dealing has seen a key, by the words of 7.2."""
    if key in dealing.gets:
        return True
    return any(low <= key <= high and key not in own for low, high, own in dealing.ranges)


def plain_writes(dealing, key):
    return key in dict(dealing.writes)


def plain_tie(one, other):
    """A tie, by the words of 8.2."""
    for key in [key for key, _ in one.writes]:
        if plain_writes(other, key) and one.number < other.number:
            return True
        if plain_seen(other, key) and one.number <= other.snapshot:
            return True
    return any(plain_seen(one, key) and other.number > one.snapshot for key, _ in other.writes)


def plain_ties(history):
    places = range(len(history))
    return [(a, b) for a in places for b in places if a != b and plain_tie(history[a], history[b])]


def plain_sees(history, index, key):
    found = [d.number for d in history if plain_writes(d, key) and d.number <= history[index].snapshot]
    return max(found, default=0)


def plain_failure(history, order, keys):
    """Runs an order by the words of 9.2, over all keys that are named."""
    stands = {}
    for index in order:
        dealing = history[index]
        for key in keys:
            if plain_seen(dealing, key) and stands.get(key, 0) != plain_sees(history, index, key):
                return (index, key)
        for key, _ in dealing.writes:
            if stands.get(key, 0) > dealing.number:
                return (index, key)
        for key, _ in dealing.writes:
            stands[key] = dealing.number
    return None


def some_keys(draw, chance):
    return tuple(key for key in KEYS if draw.random() < chance)


def some_range(draw):
    low, high = sorted([draw.choice(KEYS), draw.choice(KEYS)])
    return (low, high, tuple(key for key in some_keys(draw, 0.3) if low <= key <= high))


def drawn_history(draw, many, chance=0.3, late=3):
    """A history of so many dealings over few keys; late tells how far snapshots lag behind."""
    history, number = [], 0
    for _ in range(many):
        snapshot = max(0, number - draw.randrange(late))
        ranges = tuple(sorted({some_range(draw) for _ in range(draw.choice((0, 0, 1, 2)))}))
        writes = tuple((key, draw.choice((None, 1, 2, -5))) for key in some_keys(draw, chance))
        if writes:
            number += 1
        history.append(Dealing(snapshot, number if writes else None, some_keys(draw, chance), ranges, writes))
    return tuple(history)


def chain(many):
    """A history of so many writers, each of which sees the one ahead."""
    return tuple(Dealing(k, k + 1, ("a",), (), (("a", k),)) for k in range(many))


def wheel(many):
    """A history whose only ring goes through all dealings.

    Each writes the key of its place and has seen that of the next one as it was ahead of it.
    """
    names = ["k" + chr(97 + k // 26) + chr(97 + k % 26) for k in range(many)]
    return tuple(Dealing(0, k + 1, (names[(k + 1) % many],), (), ((names[k], k),)) for k in range(many))


class Dealings(Case):
    def part(self, *things):
        return self.raises(BadDealing, Dealing, *things).part

    def test_attributes_and_equality(self):
        things = (3, 5, ("a", "b"), (("a", "c", ("b",)),), (("a", None), ("b", -10 ** 18), (BEST, 10 ** 18)))
        one = Dealing(*things)
        self.same((one.snapshot, one.number, one.gets, one.ranges, one.writes), things)
        self.assertTrue(one == Dealing(*things))
        self.assertFalse(one != Dealing(*things))
        others = [(2, 5, *things[2:]), (3, 6, *things[2:]), (3, 5, ("a",), *things[3:]), (3, 5, things[2], (), things[4]),
                  (*things[:4], (("a", None),)), (3, None, *things[2:4], ())]
        for other in others:
            self.assertFalse(one == Dealing(*other))
        for thing in odd_things():
            self.assertFalse(one == thing)
            self.assertTrue(one != thing)

    def test_snapshot(self):
        for thing in odd_things() + [(), ("a",), "a", 1 - 2]:
            self.same(self.part(thing, 1, (), (), (("a", 1),)), "snapshot")
        self.same(Dealing(10 ** 60, 10 ** 60 + 1, (), (), (("a", 1),)).snapshot, 10 ** 60)

    def test_number(self):
        writes = (("a", 1),)
        for thing in odd_things() + [(), "a", 0, 3, 4]:
            self.same(self.part(4, thing, (), (), writes), "number")
        for thing in [thing for thing in odd_things() if thing is not None] + [(), "a", 0, 3, 4, 5]:
            self.same(self.part(4, thing, (), (), ()), "number")
        self.same(Dealing(4, 5, (), (), writes).number, 5)
        self.same(Dealing(4, 10 ** 59, (), (), writes).number, 10 ** 59)
        self.same(Dealing(4, None, (), (), ()).number, None)

    def test_number_where_writes_are_wrong(self):
        for writes in [None, [], [("a", 1)], {}, "a", 5, True]:
            self.same(self.part(4, None, (), (), writes), "writes")
            self.same(self.part(4, 5, (), (), writes), "writes")
            self.same(self.part(4, 4, (), (), writes), "number")
            self.same(self.part(4, "5", (), (), writes), "number")
        self.same(self.part(4, None, (), (), (1,)), "number")
        self.same(self.part(4, 5, (), (), (1,)), "writes")

    def test_gets(self):
        wrong = odd_things() + ["a", ["a"], ("a", "c", "b"), ("a", "b", "b"), ("a", "b", "C"), ("a" * 13,), ("a", None)]
        for thing in wrong:
            self.same(self.part(0, None, thing, (), ()), "gets")
        self.same(Dealing(0, None, ("a", "aa", "b", BEST), (), ()).gets, ("a", "aa", "b", BEST))

    def test_ranges(self):
        good = ("b", "d", ("c",))
        wrong = [("b", "d"), ["b", "d", ()], ("d", "b", ()), ("b", "d", []), ("b", "d", ["c"]), ("b", "d", ("a",)),
                 ("b", "d", ("e",)), ("b", "d", ("b", "a")), ("b", "d", ("c", "c")), ("b", "d", ("d", "c")), ("B", "d", ()),
                 ("b", "d" * 13, ()), ("", "d", ()), ("b", "d", None), ("b", "d", (), ()), ("b", 1, ()), (None, "d", ()),
                 ("b", "d", ("c", 1)), ("b", "d", "c"), ("b", "dd", ("ddd",)), True, deep(38)]
        for thing in wrong:
            self.same(self.part(0, None, (), (thing,), ()), "ranges")
        for thing in odd_things() + [[good], good, (good, good), (("c", "d", ()), good), (("b", "d", ("d",)), good)]:
            self.same(self.part(0, None, (), thing, ()), "ranges")
        right = (("b", "b", ()), ("b", "b", ("b",)), ("b", "d", ()), good, ("b", "d", ("c", "d")), ("b", BEST, ()))
        self.same(Dealing(0, None, (), right, ()).ranges, right)

    def test_writes(self):
        wrong = [("a",), ["a", 1], ("a", 1, 1), ("A", 1), ("a" * 13, 1), ("", 1), ("a", True), ("a", 10 ** 18 + 1),
                 ("a", -10 ** 18 - 1), ("a", "1"), ("a", ()), (1, 1), (None, None), "ab", 5, deep(38), {"a": 1}]
        for thing in wrong:
            self.same(self.part(0, 1, (), (), (thing,)), "writes")
            self.same(self.part(0, 1, (), (), (("a", 5), thing)), "writes")
        pairs = [(("b", 1), ("a", 1)), (("a", 1), ("a", 1)), (("a", None), ("a", 1)), (("a", 1), ("a", None)),
                 (("a", 1), ("c", 1), ("b", 1))]
        for thing in pairs:
            self.same(self.part(0, 1, (), (), thing), "writes")
        for thing in [thing for thing in odd_things() if not isinstance(thing, tuple)]:
            self.same(self.part(0, 1, (), (), thing), "writes")

    def test_the_first_part_that_is_wrong(self):
        self.same(self.part(-1, 0, None, None, None), "snapshot")
        self.same(self.part(0, 0, None, None, (("a", 1),)), "number")
        self.same(self.part(0, 1, None, None, None), "gets")
        self.same(self.part(0, 1, (), None, None), "ranges")
        self.same(self.part(0, 1, (), (), None), "writes")

    def test_long_ones(self):
        names = tuple(sorted("abcdefghijklmnop"[k // 256] + "abcdefghijklmnop"[k // 16 % 16] + "abcdefghijklmnop"[k % 16]
                             for k in range(4096)))
        one = Dealing(0, 1, names, tuple((name, name, ()) for name in names), tuple((name, 1) for name in names))
        self.assertEqual(len(one.gets), 4096)


class Histories(Case):
    CALLS = [(sees, 0, "a"), (has_seen, 0, "a"), (is_serial_order, (0,)), (first_failure, (0,)), (ties,), (serial_order,),
             (is_ring, (0,)), (ring,), (many_orders,), (worths_behind, (0,)), (prefix, 0), (lost_updates,)]

    def index(self, history):
        """The index that all functions tell, whatever else they are passed."""
        found = set()
        for function, *more in self.CALLS:
            found.add(self.raises(BadHistory, function, history, *more).index)
            found.add(self.raises(BadHistory, function, history, *[None for _ in more]).index)
        self.assertEqual(len(found), 1)
        return found.pop()

    def test_what_is_no_tuple(self):
        for thing in [thing for thing in odd_things() if not isinstance(thing, tuple)] + [list(chain(2))]:
            self.same(self.index(thing), -1)

    def test_what_is_no_dealing(self):
        for thing in odd_things():
            if not isinstance(thing, Dealing):
                self.same(self.index((thing,)), 0)
                self.same(self.index((*chain(3), thing)), 3)
        self.same(self.index((deep(39), *chain(1))), 0)

    def test_three_hundred_and_one(self):
        self.same(self.index(chain(301)), -1)
        self.same(self.index(tuple([None] * 301)), -1)
        self.same(self.index(tuple([None] * 20000)), -1)
        self.assertEqual(len(ties(chain(300))), 300 * 299 // 2)
        self.assertEqual(serial_order(chain(300)), tuple(range(300)))

    def test_numbers_in_their_order(self):
        one, two, three = chain(3)
        self.same(self.index((two,)), 0)
        self.same(self.index((one, one)), 1)
        self.same(self.index((one, three)), 1)
        self.same(self.index((one, two, two, one)), 2)
        self.same(ties((one, look(1, ()), two)), [(0, 2)])

    def test_snapshots_of_lookers(self):
        one, two = chain(2)
        self.same(self.index((look(1, ()), one)), 0)
        self.same(self.index((one, look(2, ()), two)), 1)
        self.same(self.index((one, look(10 ** 50, ()))), 1)
        self.same(ties((look(0, ()), one, look(1, ()), look(0, ()), two, look(2, ()))), [(1, 4)])

    def test_the_first_that_is_wrong(self):
        one, two = chain(2)
        self.same(self.index((one, look(5, ()), two, None)), 1)
        self.same(self.index((one, None, look(5, ()))), 1)

    def test_empty(self):
        self.same((ties(()), serial_order(()), ring(()), many_orders(()), lost_updates(())), ([], (), None, 1, []))
        self.same((worths_behind((), ()), prefix((), 7), first_failure((), ())), ({}, (), None))
        self.same((is_serial_order((), ()), is_ring((), ())), (True, False))


class Seeing(Case):
    def setUp(self):
        self.history = (Dealing(0, 1, (), (), (("a", 5), ("b", 1))), Dealing(0, 2, ("b",), (("b", "d", ("c",)),), (("a", None),)),
                        look(1, ("a", "e")), Dealing(1, 3, (), (("a", "c", ("a", "b")),), (("c", 7),)))

    def test_sees(self):
        told = {0: (0, 0, 0, 0), 1: (0, 0, 0, 0), 2: (1, 1, 0, 0), 3: (1, 1, 0, 0)}
        for index, numbers in told.items():
            self.same(tuple(sees(self.history, index, key) for key in KEYS), numbers)
        late = (*self.history, look(3, ()), look(2, ()))
        self.same([sees(late, 4, key) for key in KEYS], [2, 1, 3, 0])
        self.same([sees(late, 5, key) for key in KEYS], [2, 1, 0, 0])

    def test_has_seen(self):
        told = {0: "", 1: "bd", 2: "ae", 3: "c"}
        for index, keys in told.items():
            self.same("".join(key for key in "abcdef" if has_seen(self.history, index, key)), keys)
        self.same(has_seen((look(0, (), (("b", "d", ()),)),), 0, "bzz"), True)
        self.same(has_seen((look(0, (), (("b", "d", ()),)),), 0, "da"), False)
        two = (look(0, (), (("a", "c", ("b",)), ("b", "d", ()))),)
        self.same(has_seen(two, 0, "b"), True)

    def test_no_index_then_no_key(self):
        for function in (sees, has_seen):
            for thing in odd_things() + [4, -1, True, "0", (0,), 10 ** 60]:
                self.raises(NoIndex, function, self.history, thing, "A")
            for thing in odd_things() + [5, "a.", ("a",)]:
                self.raises(NoKey, function, self.history, 0, thing)
            self.raises(NoIndex, function, (), 0, "a")

    def test_against_the_words(self):
        draw = drawn(1)
        for _ in range(200):
            history = drawn_history(draw, draw.randrange(1, 9))
            for index in range(len(history)):
                for key in (*KEYS, "bb"):
                    self.same(sees(history, index, key), plain_sees(history, index, key))
                    self.same(has_seen(history, index, key), plain_seen(history[index], key))


class Orders(Case):
    def test_the_example(self):
        one = Dealing(0, 1, (), (), (("a", 5),))
        two = Dealing(0, 2, ("a",), (), (("b", 6),))
        looker = Dealing(1, None, ("a",), (("b", "c", ()),), ())
        three = (one, two, looker)
        found = (ties(three), ring(three), serial_order((one, two)), worths_behind((one, two), (1, 0)))
        self.same(found, ([(0, 2), (1, 0), (2, 1)], (0, 2, 1), (1, 0), {"a": 5, "b": 6}))
        self.same(serial_order(three), None)

    def test_step_of_orders(self):
        """A serial order is just one in which no tie leads back; all other answers follow from these."""
        draw = drawn(2)
        rings = 0
        for turn in range(400):
            history = drawn_history(draw, draw.randrange(1, 7), draw.choice((0.15, 0.3, 0.5)), draw.choice((1, 2, 4)))
            links = plain_ties(history)
            self.same(ties(history), links)
            serial = []
            for order in permutations(range(len(history))):
                place = {index: k for k, index in enumerate(order)}
                goes = all(place[one] < place[other] for one, other in links)
                failure = plain_failure(history, order, KEYS)
                self.same(failure is None, goes)
                self.same(is_serial_order(history, order), goes)
                self.same(first_failure(history, order), failure)
                if goes:
                    serial.append(order)
            self.same(serial_order(history), serial[0] if serial else None)
            self.same(many_orders(history), len(serial))
            self.one_of_both(history, links)
            self.ends(history, serial)
            rings += not serial
        self.assertGreater(rings, 40)
        self.assertLess(rings, 360)

    def one_of_both(self, history, links):
        """The ring told is the first of the shortest among all tuples of indexes; is_ring judges each."""
        found = []
        for many in range(2, len(history) + 1):
            for thing in permutations(range(len(history)), many):
                goes = all((thing[k - 1], thing[k]) in links for k in range(many))
                self.same(is_ring(history, thing), goes)
                if goes:
                    found.append(thing)
            if found:
                break
        self.same(ring(history), found[0] if found else None)
        self.same(ring(history) is None, serial_order(history) is not None)

    def ends(self, history, serial):
        worths = {}
        for dealing in history:
            worths.update(dict(dealing.writes))
        worths = {key: worth for key, worth in sorted(worths.items()) if worth is not None}
        for order in serial:
            self.assertEqual(worths_behind(history, order), worths)
        for order in permutations(range(len(history))):
            if order not in serial:
                self.raises(NotSerial, worths_behind, history, order)
                break

    def test_many_orders(self):
        alone = tuple(Dealing(k, k + 1, (), (), (("a" * (k % 12 + 1) + "b" * (k // 12), k),)) for k in range(11))
        self.same(many_orders(tuple(look(0, ()) for _ in range(14))), 87178291200)
        self.same(many_orders(chain(14)), 1)
        self.same(many_orders(wheel(14)), 0)
        self.same(many_orders(alone), 39916800)
        self.same(self.raises(TooMany, many_orders, tuple(look(0, ()) for _ in range(15))).most, 14)
        self.same(self.raises(TooMany, many_orders, wheel(300)).most, 14)

    def test_no_order(self):
        history = chain(3)
        wrong = odd_things() + [(0, 1), (0, 1, 2, 3), (0, 1, 1), (0, 1, 3), (-1, 0, 1), [0, 1, 2], (0, True, 2), (False, 1, 2),
                                ("a", "b", "c"), (0, 1, None), (0, 1, (2,)), "012", range(3), {0: 1, 1: 1, 2: 1}]
        for thing in wrong:
            self.raises(NoOrder, first_failure, history, thing)
            self.raises(NoOrder, worths_behind, history, thing)
            self.same(is_serial_order(history, thing), False)
        self.raises(NotSerial, worths_behind, history, (1, 0, 2))
        self.same(first_failure(history, (1, 0, 2)), (1, "a"))

    def test_seen_ones_ahead_of_written_ones(self):
        two = (Dealing(0, 1, ("b",), (), (("a", 1), ("b", 2))), Dealing(0, 2, (), (), (("a", 3), ("b", 2))))
        self.same(first_failure(two, (1, 0)), (0, "b"))
        blind = (Dealing(0, 1, (), (), (("a", 1), ("b", 2))), Dealing(0, 2, (), (), (("b", 3),)))
        self.same(first_failure(blind, (1, 0)), (0, "b"))

    def test_no_ring(self):
        history = wheel(3)
        self.same([is_ring(history, thing) for thing in [(0, 1, 2), (1, 2, 0), (2, 0, 1)]], [True] * 3)
        wrong = odd_things() + [(), (0,), (0, 0), (0, 1), (1, 0, 2), (0, 1, 2, 0), (0, 1, 2, 0, 1, 2), [0, 1, 2], (0, True, 2),
                                (0, 1, 3), (-3, 1, 2), (0, 1, -1), (0, 1, "c"), (0, 1, (2,)), (0, 1, None)]
        for thing in wrong:
            self.same(is_ring(history, thing), False)

    def test_a_dealing_has_no_tie_to_itself(self):
        self.same(ties((Dealing(0, 1, ("a",), (("a", "b", ()),), (("a", 1),)),)), [])
        self.same(is_ring((Dealing(0, 1, ("a",), (), (("a", 1),)),), (0, 0)), False)

    def test_hundreds_without_a_ring(self):
        draw = drawn(3)
        for many in (100, 300):
            history = drawn_history(draw, many, 0.2, 1)
            order = serial_order(history)
            self.same(order is None, False)
            self.same(ring(history), None)
            self.same(is_serial_order(history, order), True)
            self.assertEqual(ties(history), plain_ties(history))

    def test_hundreds_with_a_ring(self):
        for many in (2, 3, 100, 300):
            history = wheel(many)
            self.same(ring(history), tuple(range(many)))
            self.same(serial_order(history), None)
            self.same(is_ring(history, tuple(range(many))), True)
        draw = drawn(4)
        for many in (150, 300):
            history = drawn_history(draw, many, 0.3, 4)
            found = ring(history)
            self.same(is_ring(history, found), True)
            self.same(serial_order(history), None)

    def test_the_first_of_the_shortest(self):
        late = tuple(Dealing(0, d.number + 2, d.gets, (), d.writes) for d in wheel(3))
        pair = (Dealing(0, 1, ("y",), (), (("x", 1),)), Dealing(0, 2, ("x",), (), (("y", 1),)))
        self.same(ring((*pair, *late)), (0, 1))
        turned = tuple(Dealing(0, d.number, d.gets, (), d.writes) for d in wheel(4))
        far = tuple(Dealing(0, d.number + 4, d.gets, (), d.writes) for d in pair)
        self.same(ring((*turned, *far)), (4, 5))


class Prefixes(Case):
    def test_prefix(self):
        one, two, three = chain(3)
        lookers = [look(k, ("a",)) for k in range(4)]
        history = (lookers[0], one, lookers[1], two, lookers[0], lookers[2], three, lookers[3], lookers[1])
        self.same([history.index(d) for d in prefix(history, 1)], [0, 1, 2, 0, 2])
        self.assertEqual(prefix(history, 1), (lookers[0], one, lookers[1], lookers[0], lookers[1]))
        self.assertEqual(prefix(history, 0), (lookers[0], lookers[0]))
        self.assertEqual(prefix(history, 3), history)
        self.assertEqual(prefix(history, 10 ** 40), history)
        self.assertIsInstance(prefix(history, 2), tuple)

    def test_no_number(self):
        for thing in odd_things() + ["1", (1,), -5]:
            self.raises(NoNumber, prefix, chain(2), thing)

    def test_an_order_without_the_others_is_serial(self):
        draw = drawn(5)
        some = 0
        for _ in range(300):
            history = drawn_history(draw, draw.randrange(1, 9), 0.2, 2)
            order = serial_order(history)
            for number in range(6):
                found = prefix(history, number)
                kept = [k for k, d in enumerate(history) if (d.snapshot if d.number is None else d.number) <= number]
                self.assertEqual(found, tuple(history[k] for k in kept))
                ties(found)
                if order is not None:
                    some += 1
                    self.same(is_serial_order(found, tuple(kept.index(k) for k in order if k in kept)), True)
        self.assertGreater(some, 300)

    def test_lost_updates(self):
        draw = drawn(6)
        for _ in range(300):
            history = drawn_history(draw, draw.randrange(1, 9))
            told = [(a, b) for a, one in enumerate(history) for b, other in enumerate(history)
                    if one.writes and other.writes and one.number < other.number and one.number > other.snapshot
                    and set(dict(one.writes)) & set(dict(other.writes))]
            self.same(lost_updates(history), told)
        two = (Dealing(0, 1, (), (), (("a", 1),)), Dealing(0, 2, (), (), (("a", None),)), Dealing(1, 3, (), (), (("a", 1),)))
        self.same(lost_updates(two), [(0, 1), (1, 2)])


class Keeping(Case):
    def test_answers_are_new_and_arguments_stay(self):
        history = drawn_history(drawn(7), 8, 0.2, 1)
        told = repr([vars(d) for d in history])
        order = serial_order(history)
        for function in (ties, lost_updates, lambda h: worths_behind(h, order)):
            first = function(history)
            first.clear()
            self.assertTrue(function is lost_updates or function(history))
        self.assertEqual(repr([vars(d) for d in history]), told)

    def test_no_other_error(self):
        history = chain(2)
        for function, *more in Histories.CALLS:
            for thing in odd_things():
                for place in range(len(more) + 1):
                    things = [history, *more]
                    things[place] = thing
                    try:
                        function(*things)
                    except StoreError:
                        pass
