"""Promise 17.1: orders, on plain graphs and in stores."""

from wholeways.best import best_sum
from wholeways.errors import NoDeed, NotOpen
from wholeways.graph import Graph, pairs_of
from wholeways.kept import Kept
from wholeways.orders import in_store, is_order, on_graph
from wholeways.papers import is_answer
from wholeways.paths import path_weight
from wholeways.shape import graph_seen
from wholeways.store import new_store

from tests.graphs import NAMES, TOP, WORDS
from tests.helping import Case, deep, drawn, odd_things
from tests.searches import drawn_question
from tests.test_best import NO_QUESTIONS
from tests.test_shape import WRONG_NAMES, WRONG_WEIGHTS, WRONG_WORDS, WRONG_WORTHS
from tests.test_store import put_all

W = ("word", "ab")
SOME = [("node", "aaa", -TOP), ("node", "zzz", TOP), ("worth", "abc", 0), ("unnode", "abc"), ("tie", "aaa", "xy", "aaa", 0), ("tie", "aaa", "zz", "bbb", 10 ** 9), ("weight", "aaa", "xy", "bbb", 5),
        ("untie", "aaa", "xy", "bbb"), ("see", "abc"), ("from", "abc"), ("to", "abc"), ("best", "abc", W, "abc"), ("best", "abc", ("star", ("any",)), "zzz")]
# of each kind where names, words, worths and weights stand
NAME_AT = {"node": [1], "worth": [1], "unnode": [1], "tie": [1, 3], "weight": [1, 3], "untie": [1, 3], "see": [1], "from": [1], "to": [1], "best": [1, 3]}
WORD_AT, WORTH_AT, WEIGHT_AT = {"tie": [2], "weight": [2], "untie": [2]}, {"node": [2], "worth": [2]}, {"tie": [4], "weight": [4]}


class Plain:
    """A plain graph, and what each order tells by the words of 12.3 and 17.1."""

    def __init__(self, graph):
        self.nodes, self.ties = dict(graph.points), dict(graph.links)

    def graph(self):
        return Graph(tuple(sorted(self.nodes.items())), tuple(sorted(self.ties.items())))

    def told(self, order):
        kind, things = order[0], order[1:]
        if kind == "node":
            return self.told_of(things[0] in self.nodes, "NodeThere") or self.set_node(*things)
        if kind == "worth":
            return self.told_of(things[0] not in self.nodes, "NotANode") or self.set_node(*things)
        if kind == "unnode":
            tied = any(things[0] in (first, second) for first, _, second in self.ties)
            return self.told_of(things[0] not in self.nodes, "NotANode") or self.told_of(tied, "NodeTied") or self.drop(self.nodes, things[0])
        if kind == "tie":
            return self.told_of(not {things[0], things[2]} <= set(self.nodes), "NotANode") or self.told_of(things[:3] in self.ties, "TieThere") or self.set_tie(*things)
        if kind in ("weight", "untie"):
            return self.told_of(things[:3] not in self.ties, "NotATie") or (self.set_tie(*things) if kind == "weight" else self.drop(self.ties, things))
        if kind == "see":
            return self.nodes.get(things[0])
        if kind == "from":
            return tuple(sorted((word, second, weight) for (first, word, second), weight in self.ties.items() if first == things[0]))
        if kind == "to":
            return tuple(sorted((word, first, weight) for (first, word, second), weight in self.ties.items() if second == things[0]))
        return best_sum(self.graph(), things)

    def told_of(self, hinders, word):
        return ("no", word) if hinders else None

    def set_node(self, name, worth):
        self.nodes[name] = worth
        return "ok"

    def set_tie(self, first, word, second, weight):
        self.ties[first, word, second] = weight
        return "ok"

    def drop(self, rows, key):
        del rows[key]
        return "ok"


def drawn_order(draw, names=NAMES[:4], words=WORDS[:2]):
    kind = draw.choice(("node", "node", "node", "worth", "unnode", "tie", "tie", "tie", "tie", "tie", "weight", "untie", "see", "from", "to", "best", "best"))
    first, word, second = draw.choice(names), draw.choice(words), draw.choice(names)
    if kind in ("node", "worth"):
        return kind, first, draw.choice((0, 1, 2, -TOP, TOP))
    if kind in ("tie", "weight"):
        return kind, first, word, second, draw.choice((0, 1, 5, 10 ** 9))
    if kind == "untie":
        return kind, first, word, second
    return (kind, first) if kind != "best" else (kind, *drawn_question(draw, 3, words))


class IsOrder(Case):
    def test_each_form(self):
        for order in SOME:
            self.same(is_order(order), True)

    def test_with_one_thing_otherwise(self):
        for order in SOME:
            wrong = [order[1:], order + (None,), order + (order[-1],), order[:-1], list(order), (order[0].upper(),) + order[1:], (order[0] + "s",) + order[1:], ("",) + order[1:], (None,) + order[1:], ((order[0],),) + order[1:],
                     ([order[0]],) + order[1:], (order,), order[:1], order[::-1]]
            for table, things in ((NAME_AT, WRONG_NAMES), (WORD_AT, WRONG_WORDS), (WORTH_AT, WRONG_WORTHS), (WEIGHT_AT, WRONG_WEIGHTS)):
                wrong += [order[:k] + (thing,) + order[k + 1:] for k in table.get(order[0], []) for thing in things]
            for thing in wrong:
                self.no_order(thing)

    def test_no_question(self):
        for thing in NO_QUESTIONS:
            if isinstance(thing, tuple):
                self.no_order(("best",) + thing)
            self.no_order(("best", thing))

    def test_other_things(self):
        for thing in odd_things() + [(), "see", ("see",), ("see", ("abc",)), ("see", "abc", "abc"), ("best",), ("of", "abc"), ("ok",), deep(40), ("see", deep(39)), {"see": "abc"}, ("graph",)]:
            self.no_order(thing)

    def no_order(self, thing):
        self.same(is_order(thing), False)
        self.raises(NoDeed, on_graph, Graph((), ()), thing)
        self.raises(NoDeed, in_store, None, None, None, thing)


class Both(Case):
    def test_on_graphs_and_in_stores_alike(self):
        told = {}
        for seed in range(40):
            draw = drawn(seed)
            store = new_store(600, 200)
            kept = Kept(store)
            plain, graph, number = Plain(Graph((), ())), Graph((), ()), store.begin()
            for _ in range(60):
                order, ahead = drawn_order(draw), (graph.points, graph.links)
                expected = plain.told(order)
                behind, found = on_graph(graph, order)
                self.same((found, (graph.points, graph.links)), (expected, ahead))
                graph = behind
                self.assertTrue(graph == plain.graph())
                self.held(kept, store, number, graph, order, expected)
                name = expected[1] if isinstance(expected, tuple) and expected[:1] == ("no",) else "told" if expected is not None else "nothing"
                told[order[0], name] = told.get((order[0], name), 0) + 1
                if draw.random() < 0.1:
                    kept.commit_soon(number)
                    number = store.begin()
        for key in [("node", "NodeThere"), ("worth", "NotANode"), ("unnode", "NotANode"), ("unnode", "NodeTied"), ("unnode", "told"), ("tie", "NotANode"), ("tie", "TieThere"), ("weight", "NotATie"), ("untie", "NotATie"),
                    ("weight", "told"), ("untie", "told"), ("see", "nothing"), ("see", "told"), ("best", "told"), ("best", "nothing"), ("from", "told"), ("to", "told")]:
            self.assertGreater(told.get(key, 0), 5, key)

    def held(self, kept, store, number, graph, order, expected):
        in_it = in_store(kept, store, number, order)
        if order[0] == "best":
            self.same(is_answer(graph, order[1:], in_it), True)
            self.same(None if in_it[0] == "none" else path_weight(graph, in_it[1]), expected)
        else:
            self.same(in_it, expected)

    def test_small(self):
        graph = Graph((("aaa", 1), ("bbb", 2)), ((("aaa", "ab", "bbb"), 5),))
        for order, told in [(("see", "aaa"), 1), (("see", "zzz"), None), (("from", "aaa"), (("ab", "bbb", 5),)), (("to", "bbb"), (("ab", "aaa", 5),)), (("from", "zzz"), ()), (("to", "aaa"), ()),
                            (("best", "aaa", W, "bbb"), 5), (("best", "bbb", W, "aaa"), None), (("best", "aaa", ("here",), "aaa"), 0), (("node", "aaa", 5), ("no", "NodeThere")), (("worth", "zzz", 1), ("no", "NotANode")),
                            (("unnode", "zzz"), ("no", "NotANode")), (("unnode", "aaa"), ("no", "NodeTied")), (("unnode", "bbb"), ("no", "NodeTied")), (("tie", "zzz", "ab", "aaa", 1), ("no", "NotANode")),
                            (("tie", "aaa", "ab", "zzz", 1), ("no", "NotANode")), (("tie", "aaa", "ab", "bbb", 1), ("no", "TieThere")), (("weight", "bbb", "ab", "aaa", 1), ("no", "NotATie")), (("untie", "aaa", "xy", "zzz"), ("no", "NotATie"))]:
            behind, found = on_graph(graph, order)
            self.same((found, behind.points, behind.links), (told, graph.points, graph.links))
        for order, points, links in [(("worth", "aaa", 7), (("aaa", 7), ("bbb", 2)), graph.links), (("node", "aab", 0), (("aaa", 1), ("aab", 0), ("bbb", 2)), graph.links), (("untie", "aaa", "ab", "bbb"), graph.points, ()),
                                     (("weight", "aaa", "ab", "bbb", 0), graph.points, ((("aaa", "ab", "bbb"), 0),)), (("tie", "aaa", "aa", "aaa", 3), graph.points, ((("aaa", "aa", "aaa"), 3), (("aaa", "ab", "bbb"), 5)))]:
            behind, found = on_graph(graph, order)
            self.same((found, behind.points, behind.links), ("ok", points, links))
        self.same((graph.points, graph.links), ((("aaa", 1), ("bbb", 2)), ((("aaa", "ab", "bbb"), 5),)))

    def test_asked_of_the_kept_answers(self):
        store = new_store(200, 80)
        kept = Kept(store)
        kept.commit(put_all(store, pairs_of(Graph((("aaa", 1), ("bbb", 2)), ((("aaa", "ab", "bbb"), 5),)))))
        one, two = store.begin(), store.begin()
        answer = in_store(kept, store, one, ("best", "aaa", W, "bbb"))
        self.same((in_store(kept, store, two, ("best", "aaa", W, "bbb")), kept.worked(), kept.told_again()), (answer, 1, 1))

    def test_not_open(self):
        store = new_store(64, 24)
        kept = Kept(store)
        number = store.begin()
        for wrong in odd_things() + [5, 10 ** 59, (number,)]:
            for order in SOME:
                self.raises(NotOpen, in_store, kept, store, wrong, order)
            self.raises(NoDeed, in_store, kept, store, wrong, ("see",))
        self.same((store.seen(number), kept.worked()), ((0, (), (), ()), 0))
        self.assertTrue(graph_seen(store, number) == Graph((), ()))
