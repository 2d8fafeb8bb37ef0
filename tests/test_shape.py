"""Promise 12.3: graphs in a store."""

from wholeways.errors import (NodeThere, NodeTied, NoNode, NotANode, NotATie, NotOpen, NoTieWord, NotWhole, NoWeight, NoWorth,
                              Refused, StoreError, TieThere)
from wholeways.graph import Graph, graph_of, is_whole, pairs_of
from wholeways.recovery import commits_of, meaning
from wholeways.shape import (add_node, add_tie, drop_node, drop_tie, graph_seen, node_worth, set_node, set_tie, tie_weight,
                             ties_from, ties_to)
from wholeways.store import Store, new_store

from tests.books import Books, Deal
from tests.graphs import TOP
from tests.helping import Case, deep, drawn, odd_things, some_reach, stopped
from tests.test_store import put_all

NAMES = ("aaa", "bbb", "mno", "zzz")
WORDS = ("aa", "xy", "zz")
CALLS = {"add_node": add_node, "set_node": set_node, "drop_node": drop_node, "add_tie": add_tie, "set_tie": set_tie, "drop_tie": drop_tie,
         "node_worth": node_worth, "tie_weight": tie_weight, "ties_from": ties_from, "ties_to": ties_to}
WRONG_NAMES = odd_things() + ["ab", "abcd", "ABC", "ab1", "a b", "", 5, ("aaa",), ["aaa"], deep(40)]
WRONG_WORDS = odd_things() + ["x", "xyz", "XY", "x1", "", 5, ("xy",), ["xy"], "aaa"]
WRONG_WORTHS = [thing for thing in odd_things() if thing != -1] + [TOP + 1, -TOP - 1, "1", (1,)]
WRONG_WEIGHTS = odd_things() + [-1, 10 ** 9 + 1, 10 ** 59, "1", (1,)]


def is_word(thing, many):
    return isinstance(thing, str) and len(thing) == many and not thing.strip("abcdefghijklmnopqrstuvwxyz")


def is_within(thing, low, high):
    return type(thing) is int and low <= thing <= high


def need(goes, error):
    if not goes:
        raise error


class Plain:
    """A plain graph that a transaction sees, by the words of 12.3; asked are the keys that the last call surely asked for."""

    def __init__(self, worths):
        graph = graph_of({key: worth for key, worth in worths.items() if worth is not None})
        self.nodes, self.ties, self.own = dict(graph.points), dict(graph.links), {}

    def graph(self):
        return Graph(tuple(sorted(self.nodes.items())), tuple(sorted(self.ties.items())))

    def put_node(self, name, worth):
        self.own["n" + name] = worth
        if worth is None:
            del self.nodes[name]
        else:
            self.nodes[name] = worth

    def put_tie(self, first, word, second, weight):
        self.own["t" + first + word + second] = self.own["r" + second + word + first] = weight
        if weight is None:
            del self.ties[first, word, second]
        else:
            self.ties[first, word, second] = weight

    def need_node(self, name):
        self.asked.append("n" + name)
        need(name in self.nodes, NotANode(name))

    def need_tie(self, *triple):
        self.asked.append("t" + "".join(triple))
        need(triple in self.ties, NotATie())

    def told(self, call, *things):
        self.asked = []
        return getattr(self, call)(*things)

    def add_node(self, name, worth):
        need(is_word(name, 3), NoNode())
        need(is_within(worth, -TOP, TOP), NoWorth())
        self.asked.append("n" + name)
        need(name not in self.nodes, NodeThere())
        self.put_node(name, worth)

    def set_node(self, name, worth):
        need(is_word(name, 3), NoNode())
        need(is_within(worth, -TOP, TOP), NoWorth())
        self.need_node(name)
        self.put_node(name, worth)

    def drop_node(self, name):
        need(is_word(name, 3), NoNode())
        self.need_node(name)
        need(not any(name in (first, second) for first, _, second in self.ties), NodeTied())
        self.asked += [sign + name + word + other for sign in "tr" for word in ("aa", "kl", "zz") for other in ("aaa", "klm", "zzz")]
        self.put_node(name, None)

    def triple(self, first, word, second):
        need(is_word(first, 3), NoNode())
        need(is_word(second, 3), NoNode())
        need(is_word(word, 2), NoTieWord())

    def add_tie(self, first, word, second, weight):
        self.triple(first, word, second)
        need(is_within(weight, 0, 10 ** 9), NoWeight())
        self.need_node(first)
        self.need_node(second)
        self.asked.append("t" + first + word + second)
        need((first, word, second) not in self.ties, TieThere())
        self.put_tie(first, word, second, weight)

    def set_tie(self, first, word, second, weight):
        self.triple(first, word, second)
        need(is_within(weight, 0, 10 ** 9), NoWeight())
        self.need_tie(first, word, second)
        self.put_tie(first, word, second, weight)

    def drop_tie(self, first, word, second):
        self.triple(first, word, second)
        self.need_tie(first, word, second)
        self.put_tie(first, word, second, None)

    def node_worth(self, name):
        need(is_word(name, 3), NoNode())
        self.asked.append("n" + name)
        return self.nodes.get(name)

    def tie_weight(self, first, word, second):
        self.triple(first, word, second)
        self.asked.append("t" + first + word + second)
        return self.ties.get((first, word, second))

    def row(self, sign, name, word):
        need(is_word(name, 3), NoNode())
        need(word is None or is_word(word, 2), NoTieWord())
        self.asked += [sign + name + w + other for w in ((word,) if word else ("aa", "kl", "zz")) for other in ("aaa", "klm", "zzz")]

    def ties_from(self, name, word):
        self.row("t", name, word)
        return sorted((w, second, weight) for (first, w, second), weight in self.ties.items() if first == name and word in (None, w))

    def ties_to(self, name, word):
        self.row("r", name, word)
        return sorted((w, first, weight) for (first, w, second), weight in self.ties.items() if second == name and word in (None, w))


def drawn_call(draw):
    """A function with arguments, of which one is wrong now and then."""
    call = draw.choice(("add_node",) * 5 + ("add_tie",) * 6 + tuple(CALLS))
    first, second, word = draw.choice(NAMES), draw.choice(NAMES), draw.choice(WORDS)
    things = {"add_node": (first, draw.choice((0, 1, -TOP, TOP))), "set_node": (first, draw.choice((0, 1, -5))), "drop_node": (first,),
              "add_tie": (first, word, second, draw.choice((0, 1, 10 ** 9))), "set_tie": (first, word, second, draw.choice((0, 1, 7))),
              "ties_from": (first, draw.choice((word, None))), "ties_to": (first, draw.choice((word, None))), "node_worth": (first,)}
    things = list(things.get(call, (first, word, second)))
    if draw.random() < 0.04:
        things[draw.randrange(len(things))] = draw.choice((None, True, "a", "xyz", 10 ** 20, [], ("aaa",)))
    return call, things


class Weave:
    """Transactions over one store, each of them beside a plain graph; Books tells of commits, refusals and cuts."""

    def __init__(self, case, blocks, ring):
        self.case, self.store, self.books, self.plain, self.counts = case, new_store(blocks, ring), Books(case), {}, {}

    def step(self, draw):
        numbers = sorted(self.books.deals)
        way = draw.random()
        if not numbers or (way < 0.12 and len(numbers) < 4):
            number = self.store.begin()
            self.case.same(number, self.books.account.opens(self.books.account.last))
            self.books.deals[number] = Deal(self.books.account.last)
            self.plain[number] = Plain(self.books.worths[-1])
        elif way < 0.75:
            self.call(draw, draw.choice(numbers))
        elif way < 0.92:
            self.commit(draw, draw.choice(numbers))
        elif way < 0.94:
            self.give_up(draw.choice(numbers))
        else:
            self.books.keep_house(draw, self.store)

    def call(self, draw, number):
        call, things = drawn_call(draw)
        plain, kept = self.plain[number], repr(things)
        self.case.same(told(CALLS[call], self.store, number, *things), told(plain.told, call, *things))
        self.case.same(repr(things), kept)
        self.counts[call] = self.counts.get(call, 0) + 1
        self.held(number)
        if draw.random() < 0.03:
            self.case.assertTrue(graph_seen(self.store, number) == plain.graph())
            plain.asked = ["naaa", "nzzz", "taaaaaaaa", "tzzzzzzzz", "raaaaaaaa", "rzzzzzzzz"]
            self.held(number)

    def held(self, number):
        """The transaction sees a whole graph, which is the plain one; what it asked for counts as seen, what it set as written."""
        plain, deal = self.plain[number], self.books.deals[number]
        ahead = deal.own
        _, keys, ranges, writes = self.store.seen(number)
        self.case.same(dict(writes), {key: plain.own[key] for key in sorted(plain.own)})
        for key in plain.asked:
            seen = key in keys or any(low <= key <= high and key not in own for low, high, own in ranges)
            self.case.assertTrue(seen or key in ahead, key)
        deal.own, deal.keys, deal.ranges = dict(writes), set(keys), set(ranges)
        sees = {key: worth for key, worth in {**self.books.worths[deal.snapshot], **deal.own}.items() if worth is not None}
        self.case.assertTrue(is_whole(sees))
        self.case.assertTrue(graph_of(sees) == plain.graph())

    def commit(self, draw, number):
        self.books.commit(draw, self.store, number)
        if number in self.books.deals:
            self.give_up(number)
        self.case.assertTrue(is_whole(self.books.now()))

    def give_up(self, number):
        self.case.same(self.store.abort(number), None)
        del self.books.deals[number]
        del self.books.account.under_way[number]

    def cut(self, draw, least):
        """What lies there means a whole graph, and the next opening shows just that."""
        disk = self.store.disk()
        some_reach(draw, disk)
        self.case.assertTrue(is_whole(meaning(disk)))
        self.books.behind(disk, meaning(disk), commits_of(disk), least)
        self.books.pending = None
        for many in range(draw.randrange(3)):
            disk.power(many)
            if stopped(Store, disk):
                some_reach(draw, disk)
                self.case.same(meaning(disk), self.books.now())
            disk.power(None)
        self.store = self.books.opened_again(disk)
        number = self.store.begin()
        self.case.assertTrue(graph_seen(self.store, number) == graph_of(self.books.now()))
        self.store.abort(number)
        self.case.same(self.books.account.opens(self.books.account.last), number)
        del self.books.account.under_way[number]
        self.plain = {}


def told(call, *things):
    """What a call returns, or the class of what it raises with the name that this tells."""
    try:
        return call(*things)
    except StoreError as e:
        return e.__class__, getattr(e, "name", None)


class Woven(Case):
    def test_the_step_of_graphs(self):
        counts = {}
        for seed in range(25):
            draw = drawn(seed)
            weave = Weave(self, *draw.choice(((200, 60), (120, 30))))
            for _ in range(130):
                weave.step(draw)
                weave.books.held(weave.store)
            for name, many in [*weave.counts.items(), *weave.books.counts.items()]:
                counts[name] = counts.get(name, 0) + many
        for name in ("refused", "commit", "looker", *CALLS):
            self.assertGreater(counts[name], 15, name)

    def test_with_cuts(self):
        ties = 0
        for seed in range(25):
            draw = drawn(seed)
            weave = Weave(self, *draw.choice(((200, 60), (120, 30))))
            for _ in range(5):
                least = weave.store.lasting()
                weave.store.disk().power(draw.choice((None, None, 1, 3, 8, 20)))
                for _ in range(draw.randrange(60)):
                    if stopped(weave.step, draw):
                        break
                    least = weave.books.lasts(weave.store)
                weave.cut(draw, least)
                ties += len(graph_of(weave.books.now()).links)
        self.assertGreater(ties, 50)


class Small(Case):
    """A small graph: aaa and bbb, tied to and fro, and mno alone; a transaction is under way."""

    def setUp(self):
        self.store = new_store(120, 60)
        self.graph = Graph((("aaa", 1), ("bbb", 2), ("mno", 3)), ((("aaa", "aa", "aaa"), 4), (("aaa", "xy", "bbb"), 5), (("bbb", "ab", "aaa"), 6), (("bbb", "xy", "aaa"), 7)))
        self.store.commit(put_all(self.store, pairs_of(self.graph)))
        self.number = self.store.begin()


class Shapes(Small):
    def test_a_graph_is_made(self):
        store = new_store(64, 24)
        t = store.begin()
        self.same((add_node(store, t, "abc", 1), add_node(store, t, "def", 2), add_tie(store, t, "abc", "xy", "def", 5)), (None,) * 3)
        self.same(store.wrote(t), (("nabc", 1), ("ndef", 2), ("rdefxyabc", 5), ("tabcxydef", 5)))
        self.assertTrue(graph_seen(store, t) == Graph((("abc", 1), ("def", 2)), ((("abc", "xy", "def"), 5),)))
        self.same((set_node(store, t, "abc", 7), set_tie(store, t, "abc", "xy", "def", 8)), (None, None))
        self.same((node_worth(store, t, "abc"), tie_weight(store, t, "abc", "xy", "def"), tie_weight(store, t, "def", "xy", "abc")), (7, 8, None))
        self.same((ties_from(store, t, "abc", None), ties_to(store, t, "def", "xy"), ties_to(store, t, "abc", None)), ([("xy", "def", 8)], [("xy", "abc", 8)], []))
        self.same((drop_tie(store, t, "abc", "xy", "def"), drop_node(store, t, "def"), node_worth(store, t, "def")), (None, None, None))
        self.same((store.commit(t), store.now()), (1, {"nabc": 7}))

    def test_looking(self):
        store, t = self.store, self.number
        self.assertTrue(graph_seen(store, t) == self.graph)
        self.same([node_worth(store, t, name) for name in ("aaa", "mno", "zzz")], [1, 3, None])
        self.same(ties_from(store, t, "aaa", None), [("aa", "aaa", 4), ("xy", "bbb", 5)])
        self.same(ties_to(store, t, "aaa", None), [("aa", "aaa", 4), ("ab", "bbb", 6), ("xy", "bbb", 7)])
        self.same((ties_from(store, t, "aaa", "aa"), ties_to(store, t, "aaa", "xy")), ([("aa", "aaa", 4)], [("xy", "bbb", 7)]))
        self.same((ties_from(store, t, "zzz", None), ties_to(store, t, "mno", None), ties_from(store, t, "mno", "xy")), ([], [], []))
        self.same(store.wrote(t), ())

    def test_names_and_words_at_the_ends_of_the_alphabet(self):
        store = new_store(200, 60)
        t = store.begin()
        for name in ("aaa", "zzz"):
            add_node(store, t, name, 0)
        for word in ("aa", "zz"):
            for first in ("aaa", "zzz"):
                for second in ("aaa", "zzz"):
                    add_tie(store, t, first, word, second, 1)
        for name in ("aaa", "zzz"):
            self.same(ties_from(store, t, name, None), [("aa", "aaa", 1), ("aa", "zzz", 1), ("zz", "aaa", 1), ("zz", "zzz", 1)])
            self.same(ties_to(store, t, name, None), ties_from(store, t, name, None))
            self.same(ties_to(store, t, name, "zz"), [("zz", "aaa", 1), ("zz", "zzz", 1)])
        self.same(len(graph_seen(store, t).links), 8)

    def test_what_is_set_to_what_it_was_is_written(self):
        store, t = self.store, self.number
        set_node(store, t, "mno", 3)
        set_tie(store, t, "aaa", "xy", "bbb", 5)
        self.same(store.wrote(t), (("nmno", 3), ("rbbbxyaaa", 5), ("taaaxybbb", 5)))
        self.same((store.commit(t), store.last()), (2, 2))

    def test_a_loop_ties_its_node(self):
        store, t = self.store, self.number
        add_tie(store, t, "mno", "zz", "mno", 0)
        self.raises(NodeTied, drop_node, store, t, "mno")
        drop_tie(store, t, "mno", "zz", "mno")
        self.same((drop_node(store, t, "mno"), node_worth(store, t, "mno")), (None, None))

    def test_a_node_is_tied_by_what_leads_to_it_alone(self):
        store, t = self.store, self.number
        add_node(store, t, "zzz", 1)
        add_tie(store, t, "mno", "aa", "zzz", 1)
        for name in ("zzz", "mno"):
            self.raises(NodeTied, drop_node, store, t, name)

    def each(self, *calls):
        """Each of the calls, with what it is to raise, changes nothing; what it asked for is seen."""
        for kind, call, *things in calls:
            ahead = self.store.wrote(self.number)
            self.raises(kind, call, self.store, self.number, *things)
            self.same(self.store.wrote(self.number), ahead)

    def test_what_is_there_or_not(self):
        self.each((NodeThere, add_node, "aaa", 1), (NodeThere, add_node, "mno", 5), (NodeTied, drop_node, "aaa"), (NodeTied, drop_node, "bbb"),
                  (NotATie, set_tie, "aaa", "xx", "bbb", 1), (NotATie, drop_tie, "aaa", "ab", "bbb"), (NotATie, set_tie, "zzz", "xy", "aaa", 1),
                  (TieThere, add_tie, "aaa", "xy", "bbb", 9), (TieThere, add_tie, "aaa", "aa", "aaa", 4), (NotATie, drop_tie, "mno", "aa", "mno"))
        for name, call, things in [("zzz", set_node, ("zzz", 1)), ("zzz", drop_node, ("zzz",)), ("zzz", add_tie, ("zzz", "xy", "aaa", 1)),
                                   ("zzz", add_tie, ("aaa", "xy", "zzz", 1)), ("yyy", add_tie, ("yyy", "xy", "zzz", 1)), ("zzz", add_tie, ("zzz", "xy", "yyy", 1))]:
            self.same(self.raises(NotANode, call, self.store, self.number, *things).name, name)

    def test_what_is_asked_counts_as_seen_where_an_error_is_raised(self):
        for key, kind, call, things in [("naaa", NodeThere, add_node, ("aaa", 1)), ("nzzz", NotANode, set_node, ("zzz", 1)), ("nzzz", NotANode, drop_node, ("zzz",)),
                                        ("nzzz", NotANode, add_tie, ("zzz", "xy", "aaa", 1)), ("naaa", NotANode, add_tie, ("aaa", "xy", "zzz", 1)),
                                        ("taaaxybbb", TieThere, add_tie, ("aaa", "xy", "bbb", 1)), ("taaaxxbbb", NotATie, set_tie, ("aaa", "xx", "bbb", 1)),
                                        ("taaaxxbbb", NotATie, drop_tie, ("aaa", "xx", "bbb"))]:
            number = self.store.begin()
            self.raises(kind, call, self.store, number, *things)
            self.assertIn(key, self.store.seen(number)[1])

    def test_wrong_arguments_ask_for_nothing(self):
        store, t = self.store, self.number
        for wrong in WRONG_NAMES:
            self.each((NoNode, add_node, wrong, None), (NoNode, set_node, wrong, None), (NoNode, drop_node, wrong), (NoNode, node_worth, wrong),
                      (NoNode, add_tie, wrong, None, None, None), (NoNode, add_tie, "aaa", None, wrong, None), (NoNode, set_tie, wrong, None, "aaa", None),
                      (NoNode, set_tie, "aaa", None, wrong, None), (NoNode, drop_tie, wrong, None, "aaa"), (NoNode, drop_tie, "aaa", None, wrong),
                      (NoNode, tie_weight, wrong, "xy", "aaa"), (NoNode, tie_weight, "aaa", None, wrong), (NoNode, ties_from, wrong, 5), (NoNode, ties_to, wrong, None))
        for wrong in WRONG_WORDS:
            self.each((NoTieWord, add_tie, "zzz", wrong, "aaa", None), (NoTieWord, set_tie, "zzz", wrong, "zzz", None), (NoTieWord, drop_tie, "aaa", wrong, "zzz"),
                      (NoTieWord, tie_weight, "zzz", wrong, "aaa"))
            if wrong is not None:
                self.each((NoTieWord, ties_from, "aaa", wrong), (NoTieWord, ties_to, "zzz", wrong))
        for wrong in WRONG_WORTHS:
            self.each((NoWorth, add_node, "aaa", wrong), (NoWorth, set_node, "zzz", wrong))
        for wrong in WRONG_WEIGHTS:
            self.each((NoWeight, add_tie, "zzz", "xy", "yyy", wrong), (NoWeight, set_tie, "zzz", "xy", "yyy", wrong))
        self.same(store.seen(t), (1, (), (), ()))

    def test_not_open_first(self):
        for number in odd_things() + [0, 5, 10 ** 59, "1", (1,)]:
            for call, things in [(add_node, ("zzz", 1)), (add_node, (None, None)), (set_node, ("aaa", 1)), (set_node, (1, None)), (drop_node, ("mno",)), (drop_node, (1,)),
                                 (add_tie, ("aaa", "xx", "aaa", 1)), (add_tie, (None,) * 4), (set_tie, ("aaa", "xy", "bbb", 1)), (set_tie, (1,) * 4),
                                 (drop_tie, ("aaa", "xy", "bbb")), (drop_tie, ((),) * 3), (node_worth, ("aaa",)), (node_worth, (5,)), (tie_weight, ("aaa", "xy", "bbb")),
                                 (tie_weight, (None,) * 3), (ties_from, ("aaa", None)), (ties_from, (1, 1)), (ties_to, ("aaa", None)), (ties_to, (1, 1)), (graph_seen, ())]:
                self.raises(NotOpen, call, self.store, number, *things)
        self.same(self.store.now(), {key: worth for key, worth in sorted(pairs_of(self.graph).items())})

    def test_the_bounds_of_worths_and_weights(self):
        store, t = self.store, self.number
        for worth in (-TOP, TOP):
            set_node(store, t, "mno", worth)
            self.same(node_worth(store, t, "mno"), worth)
        for weight in (0, 10 ** 9):
            set_tie(store, t, "aaa", "xy", "bbb", weight)
            self.same(tie_weight(store, t, "aaa", "xy", "bbb"), weight)

    def test_lists_are_new(self):
        ties_from(self.store, self.number, "aaa", None).clear()
        ties_to(self.store, self.number, "aaa", None).clear()
        self.same(len(ties_from(self.store, self.number, "aaa", None) + ties_to(self.store, self.number, "aaa", None)), 5)


class PutOtherwise(Small):
    """Keys that were put by the store's own methods."""

    def test_not_whole(self):
        for pairs in [{"nab": 1}, {"nabcd": 1}, {"n": 1}, {"t": 1}, {"r": 1}, {"taaaxxbbb": 1}, {"rbbbxxaaa": 1}, {"taaaxybbb": 9}, {"rbbbxyaaa": None}, {"taaaxybbb": None},
                      {"naaa": None}, {"tmnoxxzzz": 1, "rzzzxxmno": 1}, {"tmnoxxmno": -1, "rmnoxxmno": -1}, {"tmnoxxmno": 10 ** 9 + 1, "rmnoxxmno": 10 ** 9 + 1},
                      {"zzzzzzzzzzzz": 1, "nzzzzzzzzzzz": 1}, {"tzzzzzzzzzzz": 1}, {"rzzzzzzzzzzz": 1}, {"naaaaaaaaaaa": 1}]:
            number = put_all(self.store, pairs)
            self.raises(NotWhole, graph_seen, self.store, number)
            self.same(self.store.wrote(number), tuple(sorted(pairs.items())))
            self.store.abort(number)

    def test_other_keys_are_left_aside(self):
        number = put_all(self.store, {"a": 1, "m": 2, "ozz": 3, "qzzzzzzzzzzz": 4, "s": 5, "u": 6, "zzzzzzzzzzzz": 7})
        self.assertTrue(graph_seen(self.store, number) == self.graph)
        number = put_all(self.store, {"nzzz": 1, "tmnoxxzzz": 2, "rzzzxxmno": 2})
        self.same((ties_from(self.store, number, "mno", None), ties_to(self.store, number, "zzz", "xx")), ([("xx", "zzz", 2)], [("xx", "mno", 2)]))
        self.same(len(graph_seen(self.store, number).points), 4)


class TwoAtOnce(Small):
    """What one of two that weave has seen, and the other has changed."""

    def both(self, one, other, is_refused):
        first, second = self.store.begin(), self.store.begin()
        for number, (call, *things) in ((first, one), (second, other)):
            call(self.store, number, *things)
        self.store.commit_soon(first)
        if is_refused:
            self.raises(Refused, self.store.commit, second)
            self.store.abort(second)
        else:
            self.store.commit(second)
        self.assertTrue(is_whole(self.store.now()))

    def test_a_node_goes_while_it_is_tied(self):
        for word, one, other in (("aa", "mno", "aaa"), ("ab", "aaa", "mno"), ("zz", "mno", "mno")):
            for turned in (False, True):
                self.setUp()
                pair = [(drop_node, "mno"), (add_tie, one, word, other, 1)]
                self.both(*(pair[::-1] if turned else pair), True)

    def test_two_that_make_the_same(self):
        self.both((add_node, "zzz", 1), (add_node, "zzz", 1), True)
        self.both((add_tie, "aaa", "zz", "mno", 1), (add_tie, "aaa", "zz", "mno", 2), True)
        self.both((set_tie, "aaa", "xy", "bbb", 1), (drop_tie, "aaa", "xy", "bbb"), True)
        self.both((set_node, "zzz", 3), (drop_node, "zzz"), True)

    def test_two_that_do_no_harm(self):
        self.both((add_tie, "mno", "aa", "mno", 1), (add_tie, "mno", "ab", "mno", 2), False)
        self.both((set_node, "aaa", 5), (set_node, "bbb", 5), False)
        self.both((set_tie, "aaa", "xy", "bbb", 1), (set_tie, "bbb", "xy", "aaa", 1), False)
