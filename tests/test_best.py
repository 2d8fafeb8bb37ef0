"""Promises 14.1, 14.3, 14.4, 15.1: places, best paths, least sums, and answers in what a transaction sees."""

import itertools

from wholeways.best import best, best_by, best_in, best_sum, far, places, sums_to
from wholeways.errors import NoPlan, NoQuestion, NotOpen
from wholeways.graph import Graph, pairs_of
from wholeways.papers import is_answer
from wholeways.paths import path_weight
from wholeways.plans import chosen_in
from wholeways.shape import add_node, add_tie, drop_tie, graph_seen, set_node, set_tie
from wholeways.store import new_store

from tests.graphs import NAMES, TOP, WORDS, drawn_graph, plain_matches, plain_steps
from tests.helping import Case, deep, drawn, odd_things
from tests.searches import FEW, Spread, drawn_case, drawn_question, node_name
from tests.test_expressions import NONE, nested, wide
from tests.test_store import put_all

W = ("word", "ab")
ANY = ("any",)
HERE = ("here",)
PLANS = ("forward", "backward", "both")
GRAPH = Graph((("abc", 1), ("def", 2)), ((("abc", "xy", "def"), 5),))
QUESTION = ("abc", ("word", "xy"), "def")
NO_PLANS = odd_things() + ["Forward", "for", "forwards", "both ", ("both",), ["forward"], 0, {"both": 1}]
NO_QUESTIONS = odd_things() + [("abc", W), ("abc", W, "def", "ghi"), ["abc", W, "def"], (W, "abc", "def"), ("ab", W, "def"), ("abc", W, "defg"), ("abc", nested("star", 31), "def"),
                               ("abc", wide(301), "def"), ("abc", deep(39), "def"), ("abc", ["any"], "def")] + [("abc", thing, "def") for thing in NONE]


class OnGraphs(Case):
    def test_e09(self):
        self.same((best_sum(GRAPH, QUESTION), sums_to(GRAPH, QUESTION)), (5, {"def": 5}))
        self.same(best(GRAPH, QUESTION)[1], ("abc", ("xy", 1), "def"))
        self.same((places(GRAPH, QUESTION), far(GRAPH, QUESTION)), ((("abc", 0), ("def", 1)), {("abc", 0): 0, ("def", 1): 5}))

    def test_against_a_plain_search(self):
        """THE FACT OF ANSWERS, THE FACT OF PLANS."""
        kinds = {}
        for seed in range(900):
            graph, question = drawn_case(drawn(seed))
            kept, asked = (graph.points, graph.links), repr(question)
            spread = Spread(graph, question)
            least = spread.least_sum()
            self.same(best_sum(graph, question), least)
            self.same(places(graph, question), tuple(sorted(spread.front())))
            self.assertEqual(far(graph, question), spread.front())
            self.assertEqual(sums_to(graph, question), spread.sums_to())
            for answer in [best(graph, question)] + [best_by(graph, question, plan) for plan in PLANS]:
                self.held(graph, question, answer, least)
                self.assertTrue(spread.is_right(answer), answer)
            self.same((graph.points, graph.links, repr(question)), (*kept, asked))
            kinds[least is None] = kinds.get(least is None, 0) + 1
        self.assertGreater(min(kinds.values()), 200)

    def held(self, graph, question, answer, least):
        """The form, and what the judge and 13.3 tell of it; the sum is the least one."""
        self.same(is_answer(graph, question, answer), True)
        self.same(answer[0], "none" if least is None else "path")
        if least is not None:
            _, path, rest, sums = answer
            self.same((len(answer), path[0], path[-1], path_weight(graph, path)), (4, question[0], question[2], least))
            self.assertIn((0, len(path) // 2), plain_matches(question[1], graph, path))
            self.same((isinstance(rest, int), isinstance(sums, dict)), (True, True))
        else:
            self.same((len(answer), answer[1] in ("from", "to"), isinstance(answer[2], tuple)), (3, True, True))

    def test_against_all_short_paths(self):
        """Of all paths of up to three steps none that matches has a lesser sum; best's is one of them, where it is so short."""
        met = 0
        for seed in range(200):
            draw = drawn(seed)
            graph, question = drawn_graph(draw, FEW[:3], WORDS[:2], worths=(0, 1, 2), chance=0.4), drawn_question(draw, 3, WORDS[:2])
            paths = [(question[0],)] if question[0] in dict(graph.points) else []
            least = {}
            for _ in range(4):
                for path in paths:
                    if (0, len(path) // 2) in plain_matches(question[1], graph, path):
                        least[path[-1]] = min(path_weight(graph, path), least.get(path[-1], 10 ** 12))
                paths = [(*path, step, other) for path in paths for step, other in plain_steps(graph, path[-1])]
            told = sums_to(graph, question)
            for name, total in least.items():
                self.assertLessEqual(told[name], total)
                met += told[name] == total
            path = best(graph, question)[1]
            if best_sum(graph, question) is not None and len(path) <= 7:
                self.same(least[question[2]], path_weight(graph, path))
        self.assertGreater(met, 100)

    def test_the_beginning_is_an_end(self):
        graph = Graph((("aaa", 1), ("bbb", 2)), ((("aaa", "ab", "aaa"), 0), (("aaa", "ab", "bbb"), 1)))
        for expression in (HERE, ("star", W), ("maybe", W), ("node", "=", 1), ("times", 0, 2, W), ("star", ("or", W, HERE))):
            for plan in PLANS:
                answer = best_by(graph, ("aaa", expression, "aaa"), plan)
                self.same(answer[1:3], (("aaa",), 0))
                self.assertTrue(is_answer(graph, ("aaa", expression, "aaa"), answer))
        for expression in (("plus", W), W, ("then", W, W)):
            self.same(best_sum(graph, ("aaa", expression, "aaa")), 0)
        self.same((best_sum(graph, ("aaa", ("node", ">", 1), "aaa")), best_sum(graph, ("aaa", ("back", "ab"), "bbb"))), (None, None))

    def test_names_that_are_not_there(self):
        for question in (("zzz", W, "abc"), ("abc", ("star", ANY), "zzz"), ("zzz", HERE, "zzz"), ("zzz", ANY, "yyy")):
            self.same(best_sum(GRAPH, question), None)
            for graph in (GRAPH, Graph((), ())):
                for answer in [best(graph, question)] + [best_by(graph, question, plan) for plan in PLANS]:
                    self.same(is_answer(graph, question, answer), True)
                    self.same(answer[0], "none")
        self.same((places(GRAPH, ("zzz", W, "abc")), far(GRAPH, ("zzz", W, "abc")), sums_to(GRAPH, ("zzz", W, "abc"))), ((), {}, {}))
        self.same((places(GRAPH, ("abc", HERE, "zzz")), sums_to(GRAPH, ("abc", ("maybe", ANY), "zzz"))), ((("abc", 0),), {"abc": 0, "def": 5}))

    def test_the_cheaper_of_two_ways(self):
        graph = Graph(tuple((name, 0) for name in ("aaa", "bbb", "ccc", "ddd")),
                      ((("aaa", "ab", "bbb"), 1), (("aaa", "ab", "ddd"), 9), (("aaa", "xy", "ddd"), 4), (("bbb", "ab", "ccc"), 1), (("ccc", "ab", "ddd"), 1)))
        self.same(best(graph, ("aaa", ("plus", W), "ddd"))[1], ("aaa", ("ab", 1), "bbb", ("ab", 1), "ccc", ("ab", 1), "ddd"))
        self.same(best(graph, ("aaa", ("or", W, ("word", "xy")), "ddd"))[1], ("aaa", ("xy", 1), "ddd"))
        self.same(sums_to(graph, ("aaa", ("star", ANY), "aaa")), {"aaa": 0, "bbb": 1, "ccc": 2, "ddd": 3})
        self.same(sums_to(graph, ("ddd", ("times", 1, 2, ("back", "ab")), "aaa")), {"aaa": 9, "bbb": 2, "ccc": 1})

    def test_a_walk_that_comes_twice_to_a_node(self):
        """A path need not be of unlike nodes: an expression can ask for more."""
        graph = Graph((("aaa", 0), ("bbb", 1)), ((("aaa", "ab", "bbb"), 3), (("bbb", "xy", "aaa"), 4)))
        self.same(best(graph, ("aaa", ("then", W, ("then", ("word", "xy"), W)), "bbb"))[1], ("aaa", ("ab", 1), "bbb", ("xy", 1), "aaa", ("ab", 1), "bbb"))
        self.same(best_sum(graph, ("aaa", ("times", 9, 9, ANY), "bbb")), 27)

    def test_wrong_questions(self):
        for thing in NO_QUESTIONS:
            with self.subTest(thing=repr(thing)[:60]):
                for call in (best, best_sum, sums_to, far, places):
                    self.raises(NoQuestion, call, GRAPH, thing)
                self.raises(NoQuestion, best_by, GRAPH, thing, "both")
                self.raises(NoQuestion, best_by, GRAPH, thing, None)

    def test_wrong_plans(self):
        for plan in NO_PLANS:
            self.raises(NoPlan, best_by, GRAPH, QUESTION, plan)

    def test_what_is_returned_is_new(self):
        for call in (far, sums_to):
            call(GRAPH, QUESTION).clear()
            self.assertTrue(call(GRAPH, QUESTION))
        for plan in PLANS:
            best_by(GRAPH, QUESTION, plan)[3].clear()
            self.assertTrue(is_answer(GRAPH, QUESTION, best_by(GRAPH, QUESTION, plan)))
        best(GRAPH, QUESTION)[3][("abc", 0)] = 7
        self.assertTrue(is_answer(GRAPH, QUESTION, best(GRAPH, QUESTION)))


class Great(Case):
    def each(self, graph, question, least):
        self.same(best_sum(graph, question), least)
        for plan in PLANS:
            answer = best_by(graph, question, plan)
            self.same(is_answer(graph, question, answer), True)
            if least is None:
                self.same(answer[0], "none")
            else:
                self.same(path_weight(graph, answer[1]), least)

    def test_a_row(self):
        many, heavy = 600, 10 ** 9
        names = [node_name(k) for k in range(many)]
        graph = Graph(tuple((name, k) for k, name in enumerate(names)), tuple(((names[k], "ab", names[k + 1]), heavy) for k in range(many - 1)))
        self.each(graph, (names[0], ("star", W), names[-1]), (many - 1) * heavy)
        self.each(graph, (names[-1], ("plus", ("back", "ab")), names[0]), (many - 1) * heavy)
        self.each(graph, (names[-1], ("star", W), names[0]), None)
        self.each(graph, (names[0], ("star", ("then", W, W)), names[-1]), None)
        self.each(graph, (names[0], ("star", ("then", ("node", "<", many - 2), W)), names[-1]), None)
        self.same(len(places(graph, (names[0], ("star", W), names[0]))), many)

    def test_a_ring(self):
        many = 300
        names = [node_name(k) for k in range(many)]
        graph = Graph(tuple((name, 0) for name in names), tuple(sorted(((names[k], "ab", names[(k + 1) % many]), 1) for k in range(many))))
        self.each(graph, (names[0], ("star", W), names[-1]), many - 1)
        self.each(graph, (names[0], ("star", ("or", W, ("back", "ab"))), names[-1]), 1)
        self.each(graph, (names[0], ("star", ("times", 7, 7, W)), names[1]), 301)

    def test_a_grid(self):
        side, draw = 20, drawn(5)
        names = [[node_name(side * row + column) for column in range(side)] for row in range(side)]
        ties = [((names[row][column], "ab", names[row][column + 1]), draw.randrange(10)) for row in range(side) for column in range(side - 1)]
        ties += [((names[row][column], "cd", names[row + 1][column]), draw.randrange(10)) for row in range(side - 1) for column in range(side)]
        graph = Graph(tuple((name, k % 7) for k, name in enumerate(itertools.chain(*names))), tuple(sorted(ties)))
        weights, least = dict(graph.links), {}
        for row, column in itertools.product(range(side), range(side)):
            ways = [least[names[row][column - 1]] + weights[names[row][column - 1], "ab", names[row][column]]] if column else []
            ways += [least[names[row - 1][column]] + weights[names[row - 1][column], "cd", names[row][column]]] if row else []
            least[names[row][column]] = min(ways, default=0)
        self.each(graph, (names[0][0], ("star", ("or", W, ("word", "cd"))), names[-1][-1]), least[names[-1][-1]])
        self.assertEqual(sums_to(graph, (names[0][0], ("star", ("or", W, ("word", "cd"))), "zzz")), least)

    def test_great_expressions(self):
        for expression in (nested("star", 30), nested("maybe", 30), nested("or", 30), nested("times", 30)):
            self.each(GRAPH, ("abc", expression, "abc"), 0)
        self.each(GRAPH, ("abc", ("star", wide(300, "or")), "def"), None)
        graph = Graph((("aaa", 1), ("bbb", 2)), ((("aaa", "ab", "bbb"), 5), (("bbb", "ab", "aaa"), 2)))
        self.each(graph, ("aaa", wide(300), "aaa"), 150 * 7)


def seen_pairs(store, number, graph):
    """Which keys of a graph's nodes and ties a transaction has seen."""
    _, keys, ranges, _ = store.seen(number)
    return lambda key: key in keys or any(low <= key <= high and key not in own for low, high, own in ranges)


def other_graph(draw, graph, is_seen):
    """A whole graph in which all that was seen lies as it does in this one; all else as it may fall."""
    other = drawn_graph(draw, NAMES, WORDS, worths=(-TOP, 0, 1, 2, 3, TOP), chance=draw.choice((0.1, 0.4, 0.9)))
    keys = lambda first, word, second: ("t" + first + word + second, "r" + second + word + first)
    ties = {triple: weight for triple, weight in other.links if not any(is_seen(key) for key in keys(*triple))}
    ties = {**{triple: weight for triple, weight in ties.items() if all(not is_seen("n" + name) or name in dict(graph.points) for name in triple[::2])},
            **{triple: weight for triple, weight in graph.links if any(is_seen(key) for key in keys(*triple))}}
    nodes = {name: worth for name, worth in other.points if not is_seen("n" + name)}
    nodes.update({name: worth for name, worth in graph.points if is_seen("n" + name)})
    for name in [name for triple in ties for name in triple[::2] if name not in nodes]:
        nodes[name] = draw.choice((-TOP, 0, 1, 2, 3, TOP))
    return Graph(tuple(sorted(nodes.items())), tuple(sorted(ties.items())))


class InStores(Case):
    def changed(self, draw, store, number):
        """The transaction changes some of its graph by the functions of 12.3; what it asked for then is of no matter here."""
        for _ in range(draw.randrange(5)):
            graph = graph_seen(store, number)
            names = [name for name, _ in graph.points]
            free = [name for name in NAMES if name not in names]
            if free and draw.random() < 0.4:
                add_node(store, number, draw.choice(free), draw.choice((0, 1, 2)))
            elif graph.links and draw.random() < 0.6:
                (first, word, second), _ = draw.choice(graph.links)
                if draw.random() < 0.5:
                    drop_tie(store, number, first, word, second)
                else:
                    set_tie(store, number, first, word, second, draw.choice((0, 1, 7)))
            elif names:
                first, word, second = draw.choice(names), draw.choice(WORDS[:3]), draw.choice(names)
                set_node(store, number, first, draw.choice((0, 1, 2)))
                if (first, word, second) not in dict(graph.links):
                    add_tie(store, number, first, word, second, draw.choice((0, 1, 2)))

    def test_right_for_what_a_transaction_sees(self):
        """Woven: each transaction over its snapshot, with changes of its own."""
        for seed in range(12):
            draw = drawn(seed)
            store, under_way = new_store(400, 100), []
            for _ in range(25):
                if len(under_way) < 3:
                    under_way.append(store.begin())
                number = draw.choice(under_way)
                self.changed(draw, store, number)
                graph, question, written = graph_seen(store, number), drawn_question(draw), store.wrote(number)
                least = Spread(graph, question).least_sum()
                for plan in PLANS:
                    answer = best_in(store, number, question, plan)
                    self.same(is_answer(graph, question, answer), True)
                    self.same(answer[0] == "none", least is None)
                self.same(store.wrote(number), written)
                if draw.random() < 0.3:
                    under_way.remove(number)
                    try:
                        store.commit_soon(number)
                    except ValueError:
                        store.abort(number)

    def test_the_fact_of_sight(self):
        many = {}
        for seed in range(150):
            draw = drawn(seed)
            graph = drawn_graph(draw, NAMES, WORDS[:3], worths=(-TOP, 0, 1, 2, TOP), chance=draw.choice((0.05, 0.1, 0.2)))
            store = new_store(600, 250)
            store.commit(put_all(store, pairs_of(graph)))
            for _ in range(4):
                question = drawn_question(draw)
                spread = Spread(graph, question)
                front, back, least = spread.front(), spread.back(), spread.least_sum()
                for plan in PLANS:
                    number = store.begin()
                    answer = best_in(store, number, question, plan)
                    self.same(is_answer(graph, question, answer), True)
                    near = {place[0] for sums in (front, back) for place, total in sums.items() if least is None or total <= least}
                    asked = {low[1:4] for low, high, _ in store.seen(number)[2]} | {key[1:4] for key in store.seen(number)[1] if key[0] in "tr"}
                    self.assertLessEqual(asked, near)
                    self.same(store.wrote(number), ())
                    is_seen = seen_pairs(store, number, graph)
                    for _ in range(3):
                        other = other_graph(draw, graph, is_seen)
                        self.assertTrue(is_answer(other, question, answer))
                        many[answer[0]] = many.get(answer[0], 0) + (other != graph)
                    store.abort(number)
        self.assertGreater(min(many.values()), 500)

    def test_it_asks_for_little(self):
        """What is far off is not asked for."""
        names = [node_name(k) for k in range(40)]
        graph = Graph(tuple((name, 0) for name in names), tuple(((names[k], "ab", names[k + 1]), 1) for k in range(39)))
        store = new_store(600, 250)
        for k in range(0, 40, 5):
            pairs = sorted(pairs_of(graph).items())[3 * k:3 * k + 15]
            store.commit(put_all(store, dict(pairs)))
        for plan in PLANS:
            number = store.begin()
            self.same(path_weight(graph, best_in(store, number, (names[20], ("star", ANY), names[22]), plan)[1]), 2)
            asked = {key[1:4] for key in store.seen(number)[1]} | {low[1:4] for low, _, _ in store.seen(number)[2]}
            self.assertLessEqual(asked, set(names[17:26]))
            store.abort(number)

    def test_what_is_asked_is_seen_by_the_store(self):
        store = new_store(200, 60)
        store.commit(put_all(store, pairs_of(GRAPH)))
        for plan in PLANS:
            one = store.begin()
            self.same(best_in(store, one, QUESTION, plan)[0], "path")
            is_seen = seen_pairs(store, one, GRAPH)
            self.assertTrue(is_seen("nabc") and is_seen("ndef") and (is_seen("tabcxydef") or is_seen("rdefxyabc")))
            store.abort(one)

    def test_errors_in_their_order(self):
        store = new_store(200, 60)
        store.commit(put_all(store, pairs_of(GRAPH)))
        number = store.begin()
        for wrong in odd_things() + [5, 10 ** 59, "1", (number,)]:
            self.raises(NotOpen, best_in, store, wrong, None, None)
            self.raises(NotOpen, best_in, store, wrong, QUESTION, "both")
        for thing in NO_QUESTIONS:
            self.raises(NoQuestion, best_in, store, number, thing, None)
            self.raises(NoQuestion, best_in, store, number, thing, "both")
        for plan in NO_PLANS:
            self.raises(NoPlan, best_in, store, number, QUESTION, plan)
        self.same(store.seen(number), (1, (), (), ()))

    def test_keys_put_otherwise(self):
        """No graph is seen then, so nothing is promised of the answer, but that there is one."""
        store = new_store(200, 60)
        store.commit(put_all(store, {**pairs_of(GRAPH), "tdefxyabc": -9, "rabcxydef": -9, "tabcxyzzz": 1, "rdefxyzzz": 1, "tabcxyzz": 1}))
        for end in ("def", "abc", "zzz"):
            for plan in PLANS:
                for expression in (("star", ANY), ("plus", ("back", "xy")), ("times", 2, 5, ANY)):
                    self.assertIn(best_in(store, store.begin(), ("abc", expression, end), plan)[0], ("path", "none"))

    def test_nodes_that_are_not_there(self):
        store = new_store(64, 24)
        for question in (("abc", ("star", ANY), "def"), ("abc", HERE, "abc")):
            for plan in PLANS:
                number = store.begin()
                self.same(is_answer(Graph((), ()), question, best_in(store, number, question, plan)), True)
                self.assertTrue(store.seen(number)[1])
                self.same(store.seen(number)[2], ())
                self.same(chosen_in(store, number, question), "forward")
