"""Promises 12.1 and 12.2: graphs, and how they lie in a store."""

from wholeways.errors import BadGraph, NotANode, NotWhole, StoreError
from wholeways.graph import Graph, graph_of, is_whole, leads_from, leads_to, pairs_of, worth_there

from tests.graphs import NAMES, WORDS, drawn_graph
from tests.helping import Case, deep, drawn, odd_things

TOP = 10 ** 18
ABC = (("abc", 1), ("def", 2))
TIE = (("abc", "xy", "def"), 5)
NOT_NAMES = odd_things() + ["ab", "abcd", "aBc", "ab1", "ab ", "", 5, ("abc",), ["abc"], b"abc"]
NOT_NODES = odd_things() + [("abc",), ("abc", 1, 1), ["abc", 1], ("ab", 1), ("abcd", 1), ("ABC", 1), ("abc", True), ("abc", None), ("abc", "1"),
                            ("abc", TOP + 1), ("abc", -TOP - 1), (1, "abc"), "abc", {"abc": 1}, ("abc", (1,)), ("abc", deep(37))]
NOT_TIES = odd_things() + [("abc", "xy", "def"), (("abc", "xy", "def"),), (("abc", "xy", "def"), 5, 5), [("abc", "xy", "def"), 5],
                           (["abc", "xy", "def"], 5), (("abc", "xy"), 5), (("abc", "xy", "def", "xy"), 5), (("abc", "x", "def"), 5),
                           (("abc", "xyz", "def"), 5), (("abc", "XY", "def"), 5), (("abc", 5, "def"), 5), (("ab", "xy", "def"), 5),
                           (("abc", "xy", "de"), 5), (("abc", "xy", "def"), -1), (("abc", "xy", "def"), 10 ** 9 + 1),
                           (("abc", "xy", "def"), True), (("abc", "xy", "def"), None), (("abc", "xy", "def"), "5"), (("abc", "xy", "ghi"), 5),
                           (("ghi", "xy", "abc"), 5), ((None, "xy", "abc"), 5), (("abc", "xy", ("def",)), 5), (deep(37), 5),
                           ((["abc"], "xy", "def"), 5), (("abc", "xy", ["def"]), 5), (({}, "xy", "def"), 5), (("abc", "xy", {}), 5), ((("abc",), "xy", "def"), 5)]


def parts_of(graph):
    return graph.points, graph.links


class Graphs(Case):
    def test_parts(self):
        for nodes, ties in [((), ()), (ABC, ()), (ABC, (TIE,)), ((("abc", -TOP), ("zzz", TOP)), ((("abc", "aa", "abc"), 0), (("zzz", "zz", "abc"), 10 ** 9)))]:
            graph = Graph(nodes, ties)
            self.same(parts_of(graph), (nodes, ties))

    def test_nodes(self):
        for thing in odd_things() + [[("abc", 1)], "abc", {"abc": 1}, 5, (("def", 1), ("abc", 1)), (("abc", 1), ("abc", 2)),
                                     (("abc", 1), ("abc", 1)), ("abc", 1)]:
            if thing != ():
                self.same(self.raises(BadGraph, Graph, thing, ()).part, "nodes")
                self.same(self.raises(BadGraph, Graph, thing, None).part, "nodes")
        for thing in NOT_NODES:
            for nodes in ((thing,), (("aaa", 1), thing), (thing, ("zzz", 1)), (("aaa", 1), thing, None)):
                self.same(self.raises(BadGraph, Graph, nodes, ()).part, "nodes")

    def test_ties_that_are_no_tuple(self):
        for thing in odd_things() + [[TIE], "abc", {TIE: 1}, 5]:
            if not isinstance(thing, tuple):
                self.same(self.raises(BadGraph, Graph, ABC, thing).part, "ties")

    def test_the_first_tie_that_is_none(self):
        least, greatest = (("abc", "aa", "abc"), 1), (("def", "zz", "def"), 1)
        for thing in NOT_TIES:
            for at, ties in enumerate(((thing,), (least, thing), (least, TIE, thing, None, greatest))):
                self.same(self.raises(BadGraph, Graph, ABC, ties).part, at)
        self.same(self.raises(BadGraph, Graph, (), (TIE,)).part, 0)

    def test_ties_ascend(self):
        for at, ties in [(1, (TIE, TIE)), (1, (TIE, (TIE[0], 6))), (1, ((TIE[0], 6), TIE)), (1, (TIE, (("abc", "xy", "abc"), 5))),
                         (2, ((("abc", "xx", "def"), 9), TIE, (("abc", "ab", "def"), 9))), (1, ((("def", "aa", "abc"), 1), TIE)),
                         (1, (TIE, (("abc", "xx", "def"), 9), None))]:
            self.same(self.raises(BadGraph, Graph, ABC, ties).part, at)

    def test_equal(self):
        one = Graph(ABC, (TIE,))
        self.assertTrue(one == Graph(ABC, (TIE,)) and one == one)
        for other in (Graph(ABC, ()), Graph((("abc", 1), ("def", 3)), (TIE,)), Graph(ABC, ((TIE[0], 6),)), (ABC, (TIE,)), 0, None, "graph"):
            self.assertFalse(one == other)
            self.assertTrue(one != other)

    def test_no_other_error(self):
        for thing in odd_things():
            for things in [(thing, thing), (ABC, thing), ((thing,), ()), (ABC, (thing,)), (((thing, thing),), ()), (ABC, ((thing, thing),)),
                           (ABC, (((thing, thing, thing), thing),)), ((("abc", thing),), ())]:
                try:
                    Graph(*things)
                except StoreError:
                    pass


class Asking(Case):
    def test_worth_there(self):
        graph = Graph((("abc", 0), ("def", -TOP)), ())
        self.same([worth_there(graph, name) for name in ("abc", "def", "ghi")], [0, -TOP, None])
        for thing in NOT_NAMES:
            self.same(worth_there(graph, thing), None)

    def test_leads(self):
        graph = Graph((("aaa", 1), ("bbb", 2), ("ccc", 3)), ((("aaa", "xy", "aaa"), 1), (("aaa", "xy", "bbb"), 2), (("aaa", "yy", "aaa"), 3),
                                                         (("bbb", "ab", "aaa"), 4), (("bbb", "xy", "aaa"), 5)))
        self.same(leads_from(graph, "aaa"), [("xy", "aaa", 1), ("xy", "bbb", 2), ("yy", "aaa", 3)])
        self.same(leads_to(graph, "aaa"), [("ab", "bbb", 4), ("xy", "aaa", 1), ("xy", "bbb", 5), ("yy", "aaa", 3)])
        self.same((leads_from(graph, "bbb"), leads_to(graph, "bbb")), ([("ab", "aaa", 4), ("xy", "aaa", 5)], [("xy", "aaa", 2)]))
        self.same((leads_from(graph, "ccc"), leads_to(graph, "ccc")), ([], []))

    def test_drawn(self):
        for seed in range(60):
            graph = drawn_graph(drawn(seed))
            worths = dict(graph.points)
            for name in NAMES:
                self.same(worth_there(graph, name), worths.get(name))
                if name in worths:
                    self.same(leads_from(graph, name), sorted((word, second, weight) for (first, word, second), weight in graph.links
                                                              if first == name))
                    self.same(leads_to(graph, name), sorted((word, first, weight) for (first, word, second), weight in graph.links
                                                            if second == name))

    def test_not_a_node(self):
        graph = Graph(ABC, (TIE,))
        for thing in NOT_NAMES + ["ghi", "aaa"]:
            for call in (leads_from, leads_to):
                self.assertTrue(self.raises(NotANode, call, graph, thing).name is thing)

    def test_lists_are_new(self):
        graph = Graph(ABC, (TIE,))
        leads_from(graph, "abc").clear()
        leads_to(graph, "def").append(5)
        self.same((leads_from(graph, "abc"), leads_to(graph, "def"), parts_of(graph)), ([("xy", "def", 5)], [("xy", "abc", 5)], (ABC, (TIE,))))


class Whole(Case):
    def test_pairs(self):
        self.same(pairs_of(Graph((), ())), {})
        self.assertEqual(pairs_of(Graph(ABC, (TIE,))), {"nabc": 1, "ndef": 2, "tabcxydef": 5, "rdefxyabc": 5})
        self.assertEqual(pairs_of(Graph((("abc", 7),), ((("abc", "xy", "abc"), 0),))), {"nabc": 7, "tabcxyabc": 0, "rabcxyabc": 0})

    def test_there_and_back(self):
        for seed in range(60):
            draw = drawn(seed)
            graph = drawn_graph(draw)
            pairs = pairs_of(graph)
            self.assertEqual(len(pairs), len(graph.points) + 2 * len(graph.links))
            rows = list(pairs.items()) + [("a", 5), ("m" * 12, -TOP), ("sabcxydef", 1), ("z", TOP), ("ob", 0)]
            draw.shuffle(rows)
            mixed = dict(rows)
            for thing in (pairs, mixed):
                kept = dict(thing)
                self.same(is_whole(thing), True)
                self.assertTrue(graph_of(thing) == graph)
                self.same(parts_of(graph_of(thing)), parts_of(graph))
                self.assertEqual(list(thing.items()), list(kept.items()))

    def broken(self, pairs):
        self.same(is_whole(pairs), False)
        self.raises(NotWhole, graph_of, pairs)

    def test_one_key_out_or_another_worth(self):
        for seed in range(25):
            draw = drawn(seed)
            graph = drawn_graph(draw)
            pairs = pairs_of(graph)
            tied = {name for (first, _, second), _ in graph.links for name in (first, second)}
            for key, worth in pairs.items():
                less = {other: pairs[other] for other in pairs if other != key}
                other_worth = {**pairs, key: worth + 1 if worth < 5 else worth - 1}
                if key[0] == "n":
                    self.same(is_whole(less), key[1:] not in tied)
                    self.same(is_whole(other_worth), True)
                else:
                    self.broken(less)
                    self.broken(other_worth)

    def test_keys_of_no_graph(self):
        pairs = pairs_of(Graph(ABC, (TIE,)))
        for key in ["n", "t", "r", "nab", "nabcd", "nabcxydef", "tabc", "tabcxyde", "tabcxydefg", "rdefxyab", "rabcxydef", "tabcxyghi", "tdefxyabc",
                    "nnnnn", "tttttttttttt", "rabc"]:
            self.broken({**pairs, key: 5})
        for key in ["tabcxyghi", "tghixyabc", "tghixyghi"]:
            self.broken({**pairs, key: 5, "r" + key[6:] + key[4:6] + key[1:4]: 5})
        self.same(is_whole({**pairs, "nghi": 5, "tabcxyghi": 5, "rghixyabc": 5}), True)
        self.same(is_whole({**pairs, "a": 5, "tabczzdef": 1, "rdefzzabc": 1, "m": 0}), True)

    def test_weights(self):
        for weight, goes in ((0, True), (10 ** 9, True), (10 ** 9 + 1, False), (-1, False)):
            pairs = {"nabc": 1, "tabcxyabc": weight, "rabcxyabc": weight}
            self.same(is_whole(pairs), goes)
            if not goes:
                self.broken(pairs)
        self.broken({"nabc": 1, "tabcxyabc": 4, "rabcxyabc": 5})

    def test_worths_of_nodes(self):
        for worth in (-TOP, 0, TOP):
            self.same(graph_of({"nabc": worth}).points, (("abc", worth),))

    def test_any_other_object(self):
        wrong = [thing for thing in odd_things() if thing not in ({}, {"a": 1})]
        wrong += [[("nabc", 1)], (("nabc", 1),), "nabc", {"nabc": True}, {"nabc": None}, {"nabc": "1"}, {"a": TOP + 1}, {"nabc": -TOP - 1}, {"A": 1},
                  {"": 1}, {5: 1}, {"a" * 13: 1}, {"a": None}, {b"nabc": 1}, {("nabc",): 1}, {None: 1}, {"nabc": deep(38)}, {"nabc": [1]},
                  {k: k for k in range(9000)}, Graph(ABC, (TIE,))]
        for thing in wrong:
            with self.subTest(thing=repr(thing)[:60]):
                self.broken(thing)
        self.same((is_whole({}), is_whole({"a": 1}), parts_of(graph_of({"a": 1}))), (True, True, ((), ())))

    def test_dicts_are_new(self):
        graph = Graph(ABC, (TIE,))
        pairs_of(graph).clear()
        self.same(len(pairs_of(graph)), 4)

    def test_what_is_left_of_the_words(self):
        """Names and words of all letters, at both ends of the alphabet."""
        for first in ("aaa", "zzz"):
            for word in WORDS:
                graph = Graph((("aaa", 1), ("zzz", 1)), (((first, word, "aaa"), 3),))
                self.assertTrue(graph_of(pairs_of(graph)) == graph)
