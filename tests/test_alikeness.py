"""Promise 13.6: whether two expressions are alike, with tables and partings."""

from wholeways.alikeness import alike_table, is_alike_table, is_parting, parting
from wholeways.automata import automaton, ends_with
from wholeways.errors import NoExpression, TooMany
from wholeways.expressions import is_expression, matches
from wholeways.graph import Graph

from tests.graphs import TOP, drawn_expression, drawn_graph, drawn_path, plain_matches
from tests.helping import Case, deep, drawn, odd_things
from tests.test_automata import plain_behind
from tests.test_expressions import NONE, nested, wide

W, ANY, HERE = ("word", "ab"), ("any",), ("here",)
NEVER = ("node", "<", -TOP)
LETTER = ("or", ("word", "aa"), ("word", "bb"))


class Plain:
    """Both automata walked side by side, word by word of 13.6, in plain sets."""

    def __init__(self, one, other):
        self.both = automaton(one), automaton(other)
        starts = {-TOP}
        words = {"zq"}
        for m in self.both:
            stretches = [stretch for _, stretch, _ in m.moves] + [stretch for _, stretch in m.ends]
            starts |= {low for low, _ in stretches} | {high + 1 for _, high in stretches if high < TOP}
            words |= {atom[1] for atom in m.atoms if len(atom) == 2}
        self.worths = sorted(starts)
        self.steps = [(word, way) for word in sorted(words) for way in (1, -1)]
        self.known = {}

    def moved(self, m, lot, worth, step):
        found = set()
        for state in lot:
            if (id(m), state, worth, step) not in self.known:
                self.known[id(m), state, worth, step] = plain_behind(m, worth, state, step)
            found |= set(self.known[id(m), state, worth, step])
        return tuple(sorted(found))

    def behind(self, pair):
        return {(self.moved(self.both[0], pair[0], worth, step), self.moved(self.both[1], pair[1], worth, step)) for worth in self.worths for step in self.steps}

    def parts(self, pair):
        return any(any(ends_with(self.both[0], worth, state) for state in pair[0]) != any(ends_with(self.both[1], worth, state) for state in pair[1]) for worth in self.worths)

    def walked(self):
        """The triple of all pairs that are met, the level that parts them or None, and whether that is TooMany."""
        met, level, many = {((0,), (0,))}, {((0,), (0,))}, 0
        while level:
            if any(self.parts(pair) for pair in level):
                return met, many, False
            if len(met) > 4000:
                return met, None, True
            level = {behind for pair in level for behind in self.behind(pair)} - met
            met |= level
            many += 1
        return met, None, False

    def is_table(self, thing):
        states = [range(len(m.atoms) + 1) for m in self.both]
        pairs = set(thing)
        if list(thing) != sorted(pairs) or not all(list(lot) == sorted(set(lot)) and set(lot) <= set(own) for pair in thing for lot, own in zip(pair, states)):
            return False
        return ((0,), (0,)) in pairs and not any(self.parts(pair) or not self.behind(pair) <= pairs for pair in pairs)


def rewritten(draw, expression):
    """An expression that matches the same."""
    kind = expression[0]
    if kind == "times":
        part = rewritten(draw, expression[3])
        expression = (*expression[:3], part)
        if draw.random() < 0.4 and expression[1] < expression[2]:
            return ("or", ("times", expression[1] + 1, expression[2], part), ("times", expression[1], max(expression[1], 1), part))
        return expression
    if kind in ("then", "or", "star", "plus", "maybe"):
        parts = [rewritten(draw, part) for part in expression[1:]]
        expression = (kind, *parts)
        if draw.random() < 0.6:
            if kind == "or":
                return ("or", parts[1], parts[0]) if draw.random() < 0.7 else ("or", expression, parts[0])
            if kind == "then":
                return ("then", parts[0], ("then", HERE, parts[1])) if draw.random() < 0.4 else expression
            return {"star": draw.choice((("maybe", ("plus", *parts)), ("star", expression), ("star", ("maybe", *parts)))), "plus": ("then", *parts, ("star", *parts)),
                    "maybe": ("or", HERE, *parts)}[kind]
    if kind == "node" and expression[1] == "<" and draw.random() < 0.3 and expression[2] > -TOP:
        return ("or", ("node", "<", expression[2] - 1), ("node", "=", expression[2] - 1))
    return expression


def row(*parts):
    whole = parts[0]
    for part in parts[1:]:
        whole = ("then", whole, part)
    return whole


def so_many(part, many):
    """A part, so many times behind itself."""
    nines, rest = divmod(many, 9)
    parts = []
    while nines:
        parts.append(("times", 9, 9, part) if nines < 9 else ("times", 9, 9, ("times", 9, 9, part)))
        nines -= 1 if nines < 9 else 9
    return row(*parts, *([("times", rest, rest, part)] if rest else []))


class Alike(Case):
    def test_e13(self):
        self.same((alike_table(("maybe", ("plus", W)), ("star", W)), parting(("maybe", ("plus", W)), ("star", W)), alike_table(W, ("star", W))),
                  ((((), ()), ((0,), (0,)), ((1,), (1,))), None, None))

    def held(self, one, other):
        plain = Plain(one, other)
        met, level, too_many = plain.walked()
        if too_many:
            for call in (alike_table, parting, lambda *both: is_parting(*both, None)):
                self.same(self.raises(TooMany, call, one, other).most, 4000)
            return "too many"
        told = parting(one, other)
        if level is None:
            self.same((told, alike_table(one, other)), (None, tuple(sorted(met))))
            self.same(is_alike_table(one, other, tuple(sorted(met))), True)
            self.same(is_parting(one, other, (Graph((("aaa", 0),), ()), ("aaa",))), False)
            return "alike"
        self.same(alike_table(one, other), None)
        graph, path = told
        self.same((is_parting(one, other, told), len(path) // 2, isinstance(told, tuple), isinstance(graph, Graph)), (True, level, True, True))
        whole = (0, len(path) // 2)
        self.assertNotEqual(whole in plain_matches(one, graph, path), whole in plain_matches(other, graph, path))
        self.same(is_alike_table(one, other, tuple(sorted(met))), False)
        return "apart"

    def test_against_a_plain_walking(self):
        counts = {}
        for seed in range(350):
            draw = drawn(seed)
            one = drawn_expression(draw, 4)
            other = drawn_expression(draw, 4) if draw.random() < 0.2 else rewritten(draw, rewritten(draw, one))
            if is_expression(one) and is_expression(other) and max(len(automaton(x).atoms) for x in (one, other)) < 16:
                told = self.held(one, other)
                counts[told] = counts.get(told, 0) + 1
                self.held(other, one)
        self.assertGreater(min(counts["alike"], counts["apart"]), 40)

    def test_alike_ones_match_the_same(self):
        for seed in range(100):
            draw = drawn(seed)
            one = drawn_expression(draw, 3)
            other, graph = rewritten(draw, one), drawn_graph(draw, chance=0.4)
            path = drawn_path(draw, graph, draw.randrange(5))
            if path and is_expression(one) and is_expression(other):
                self.same(parting(one, other), None)
                self.same(matches(one, graph, path), matches(other, graph, path))

    def test_some(self):
        for one, other in [(W, W), (("star", ("star", W)), ("star", W)), (("or", W, HERE), ("maybe", W)), (("plus", ("maybe", W)), ("star", W)), (NEVER, ("then", W, NEVER)), (("node", "<", -TOP), ("node", ">", TOP)),
                           (("or", ("node", "<", 5), ("or", ("node", "=", 5), ("node", ">", 5))), HERE), (("star", NEVER), HERE), (("times", 0, 3, W), ("maybe", ("then", W, ("maybe", ("then", W, ("maybe", W)))))),
                           (("then", ("star", W), W), ("plus", W)), (("star", so_many(W, 40)), ("star", ("plus", so_many(W, 40)))), (("then", ("node", "<", 5), ("node", "<", 3)), ("node", "<", 3)),
                           (("star", ("or", ANY, W)), ("star", ANY)), (nested("star", 30), ("star", W)), (wide(300, "or"), W)]:
            self.same(self.held(one, other), "alike")

    def test_apart_in_one_thing(self):
        """One far worth, one word, one way, one step."""
        for one, other, steps in [(("node", "<", TOP), HERE, 0), (("node", "<", TOP - 1), ("node", "<", TOP), 0), (row(W, W, ("node", ">", -TOP)), row(W, W), 2), (("word", "ab"), ("word", "ac"), 1),
                                  (("word", "ab"), ("back", "ab"), 1), (W, ANY, 1), (("or", W, ("back", "ab")), ANY, 1), (("star", W), ("plus", W), 0), (("times", 0, 9, W), ("times", 0, 8, W), 9),
                                  (("star", so_many(W, 40)), ("star", so_many(W, 80)), 40), (so_many(ANY, 299), so_many(ANY, 300), 299), (W, NEVER, 1), (row(W, ("node", "=", 10 ** 17), W), row(W, W), 2),
                                  (("star", ("or", W, ("then", ("node", "=", 7), ("back", "xy")))), ("star", ("or", W, ("then", ("node", "=", 8), ("back", "xy")))), 1),
                                  (wide(300, "or"), ("star", W), 0), (row(*[LETTER] * 9), row(*[LETTER] * 8, ANY), 9)]:
            self.same((self.held(one, other), len(parting(one, other)[1]) // 2), ("apart", steps))

    def test_a_long_path(self):
        """All lengths but the multiples of 4, 5, 7 and 9 together, and nothing gone: so 1260 steps part it from the star."""
        rows = [row(("times", 1, most - 1, W), ("star", ("times", most, most, W))) for most in (4, 5, 7, 9)]
        one = ("or", ("or", HERE, rows[0]), ("or", rows[1], ("or", rows[2], rows[3])))
        graph, path = parting(one, ("star", W))
        self.same((is_parting(one, ("star", W), (graph, path)), len(path), len(graph.points), matches(one, graph, path), matches(("star", W), graph, path)), (True, 2521, 1261, False, True))

    def test_words_by_the_hundred(self):
        """So many words that the further one has to be looked for."""
        words = [first + second for first in "abcdefghijklmnopqrst" for second in "abcdefghijklmno"]
        whole = [("word", word) for word in words]
        while len(whole) > 1:
            whole = [("or", *whole[k:k + 2]) if k + 1 < len(whole) else whole[k] for k in range(0, len(whole), 2)]
        graph, path = parting(whole[0], ANY)
        self.same((is_parting(whole[0], ANY, (graph, path)), len(path), path[1][0] in words and path[1][1] == 1), (True, 3, False))
        self.same(parting(whole[0], ("or", whole[0][2], whole[0][1])), None)


class HowMany(Case):
    def counted(self, ahead):
        """Two that never match, of just so many pairs: a row, a ring of 57 beside one of 70, and the dead pair."""
        return [row(so_many(W, ahead), ("star", so_many(W, ring)), NEVER) for ring in (57, 70)]

    def test_just_as_many_as_may_be(self):
        one, other = self.counted(8)
        table = alike_table(one, other)
        self.same((len(table), parting(one, other), is_alike_table(one, other, table)), (4000, None, True))
        one, other = self.counted(9)
        for call in (alike_table, parting):
            self.same(self.raises(TooMany, call, one, other).most, 4000)
        for thing in (None, (), deep(40)):
            self.same(self.raises(TooMany, is_parting, one, other, thing).most, 4000)

    def test_a_table_may_have_more(self):
        one, other = self.counted(9)
        plain = Plain(one, other)
        table = {((0,), (0,))}
        level = set(table)
        while level:
            level = {pair for ahead in level for pair in plain.behind(ahead)} - table
            table |= level
        self.same((len(table), is_alike_table(one, other, tuple(sorted(table)))), (4001, True))
        self.same(is_alike_table(one, other, tuple(sorted(table))[:-1]), False)

    def test_a_level_that_parts_them_may_have_more(self):
        for many, is_let in ((10, True), (11, True), (12, False)):
            one = row(("star", LETTER), ("word", "aa"), *[LETTER] * many)
            other = row(one, ANY)
            if is_let:
                told = parting(one, other)
                self.same((len(told[1]) // 2, is_parting(one, other, told), alike_table(one, other)), (many + 1, True, None))
            else:
                for call in (parting, alike_table):
                    self.same(self.raises(TooMany, call, one, other).most, 4000)


class Partings(Case):
    one, other = row(W, ("node", ">", 5), W), row(W, W)

    def test_any_graph_that_has_it(self):
        """Further nodes and ties, a path that comes to a node again, any worths of these kinds."""
        graph = Graph((("aaa", 3), ("bbb", 4), ("zzz", 7)), ((("aaa", "ab", "aaa"), 5), (("aaa", "ab", "bbb"), 0), (("bbb", "ab", "aaa"), 9), (("zzz", "ab", "aaa"), 1)))
        for path in [("aaa", ("ab", 1), "aaa", ("ab", 1), "aaa"), ("aaa", ("ab", 1), "bbb", ("ab", 1), "aaa"), ("zzz", ("ab", 1), "aaa", ("ab", 1), "bbb")]:
            self.same((is_parting(self.one, self.other, (graph, path)), is_parting(self.other, self.one, (graph, path))), (True, True))
        for path in [("aaa",), ("aaa", ("ab", 1), "aaa"), ("aaa", ("ab", 1), "aaa", ("ab", 1), "aaa", ("ab", 1), "aaa"), ("aaa", ("ab", -1), "aaa", ("ab", 1), "aaa"), ("aaa", ("ab", 1), "zzz", ("ab", 1), "aaa"),
                     ("bbb", ("ab", 1), "bbb", ("ab", 1), "aaa"), ["aaa", ("ab", 1), "aaa", ("ab", 1), "aaa"], ("aaa", ("ab", 1), "aaa", ("ab", 1)), (), None, deep(40), "aaa"]:
            self.same(is_parting(self.one, self.other, (graph, path)), False)

    def test_both_match_or_none(self):
        graph = Graph((("aaa", 6), ("bbb", 4)), ((("aaa", "ab", "aaa"), 5), (("bbb", "ab", "bbb"), 0), (("bbb", "xy", "bbb"), 0)))
        self.same(is_parting(self.one, self.other, (graph, ("aaa", ("ab", 1), "aaa", ("ab", 1), "aaa"))), False)
        self.same(is_parting(self.one, self.other, (graph, ("bbb", ("xy", 1), "bbb", ("ab", 1), "bbb"))), False)
        self.same(is_parting(self.one, self.other, (graph, ("bbb", ("ab", 1), "bbb", ("ab", 1), "bbb"))), True)

    def test_more_steps_than_need_be(self):
        graph = Graph((("aaa", 1),), ((("aaa", "ab", "aaa"), 1),))
        two, three = ("or", HERE, row(W, W)), ("or", HERE, row(W, W, W))
        paths = [("aaa",) + (("ab", 1), "aaa") * many for many in range(5)]
        self.same([is_parting(two, three, (graph, path)) for path in paths], [False, False, True, False, False])

    def test_alike_ones_have_none(self):
        graph, path = parting(self.one, self.other)
        self.same(is_parting(("star", W), ("star", ("star", W)), (graph, path)), False)

    def test_other_things(self):
        graph, path = parting(self.one, self.other)
        for thing in [(graph, path, None), (path, graph), [graph, path], (graph,), graph, path, (None, path), ((graph.points, graph.links), path), (graph, None), deep(40), {graph.points: path}] + odd_things():
            self.same(is_parting(self.one, self.other, thing), False)

    def test_equal_calls_and_new_graphs(self):
        first, second = parting(self.one, self.other), parting(self.one, self.other)
        self.assertTrue(first[0] == second[0] and first[1] == second[1])


class Tables(Case):
    def test_against_a_plain_judge(self):
        counts = {True: 0, False: 0}
        for seed in range(150):
            draw = drawn(seed)
            one = drawn_expression(draw, 3)
            other = rewritten(draw, one)
            if not is_expression(other) or max(len(automaton(x).atoms) for x in (one, other)) > 8:
                continue
            plain, table = Plain(one, other), alike_table(one, other)
            for _ in range(5):
                lots = [tuple(state for state in range(len(m.atoms) + 1) if draw.random() < 0.4) for m in plain.both]
                level, more = {tuple(lots)}, set(table)
                while level and draw.random() < 0.95:
                    more |= level
                    level = {pair for ahead in level for pair in plain.behind(ahead)} - more
                if draw.random() < 0.2:
                    more.discard(draw.choice(sorted(more)))
                thing = tuple(sorted(more))
                right = plain.is_table(thing)
                self.same(is_alike_table(one, other, thing), right)
                counts[right] += 1
        self.assertGreater(min(counts.values()), 80)

    def test_one_thing_otherwise(self):
        one, other = ("maybe", ("plus", W)), ("star", W)
        table = alike_table(one, other)
        self.same(is_alike_table(one, other, table), True)
        # one may stand in (1,), (1,) by these pairs, too, and come nowhere else by them
        self.same(is_alike_table(one, other, tuple(sorted(table + (((0, 1), (0, 1)),)))), True)
        self.same(is_alike_table(one, other, tuple(sorted(table + (((0,), (1,)),)))), True)
        for lots in [((0, 2), (0,)), ((0,), (0, 2)), ((2,), (0,)), ((), (2,)), ((2,), ())]:
            self.same(is_alike_table(one, other, tuple(sorted(table + (lots,)))), False)
        for thing in [table[1:], table[:1] + table[2:], table[:2], table[::-1], table + table[-1:], list(table), table + (((2,), (1,)),), table + (((1,), (2,)),), tuple(sorted(table + (((1,), ()),))),
                      tuple(sorted(table + (((), (0,)),))), table[:2] + (((1,), (1,), ()),), table[:2] + ([(1,), (1,)],), table[:2] + (([1], (1,)),), table[:2] + (((1,), [1]),), table[:2] + (((1,),),),
                      table[:2] + (((True,), (1,)),), table[:2] + (((1, 1), (1,)),), table + (((1, 0), (1,)),), table + (((-1,), (1,)),), table + (((10 ** 59,), (1,)),), (), (deep(39),), table + (None,), table + ("",),
                      dict.fromkeys(table), {0: table}, (table,), table[:2] + (("1", (1,)),)] + odd_things():
            self.same(is_alike_table(one, other, thing), False)

    def test_of_ones_that_are_not_alike(self):
        for one, other in [(W, ("star", W)), (row(W, W), row(W, ("node", "<", 5), W))]:
            for thing in [(), (((0,), (0,)),), (((), ()), ((0,), (0,)), ((1,), (1,))), (((), ()), ((0,), (0,)), ((1,), (1,)), ((2,), (2,)))]:
                self.same(is_alike_table(one, other, thing), False)


class Wrong(Case):
    def test_no_expression(self):
        for thing in NONE + [nested("star", 31), wide(301)]:
            for both in ((thing, W), (W, thing), (thing, thing)):
                for call in (parting, alike_table):
                    self.raises(NoExpression, call, *both)
                for call in (is_parting, is_alike_table):
                    self.raises(NoExpression, call, *both, None)
                    self.raises(NoExpression, call, *both, ())
