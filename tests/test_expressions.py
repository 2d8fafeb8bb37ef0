"""Promises 13.2 and 13.3: expressions, and what they match."""

from wholeways.errors import NoExpression, NoPath
from wholeways.expressions import is_expression, matches, size, stretches, turned_expression
from wholeways.graph import Graph
from wholeways.paths import turned

from tests import test_paths
from tests.graphs import SIGNS, WORDS, drawn_expression, drawn_graph, drawn_path, plain_matches, plain_size
from tests.helping import Case, deep, drawn, odd_things
from tests.test_paths import NO_FORM, NOT_THERE

TOP = 10 ** 18
W = ("word", "ab")
HERE = ("here",)
GRAPH = Graph((("aaa", -1), ("bbb", 0), ("ccc", 1)), ((("aaa", "ab", "bbb"), 1), (("aaa", "xy", "aaa"), 3), (("bbb", "ab", "ccc"), 2), (("ccc", "ab", "aaa"), 4)))
# aaa -ab-> bbb -ab-> ccc <-ab- bbb -ab-> ccc -ab-> aaa -xy-> aaa
PATH = ("aaa", ("ab", 1), "bbb", ("ab", 1), "ccc", ("ab", -1), "bbb", ("ab", 1), "ccc", ("ab", 1), "aaa", ("xy", 1), "aaa")


def nested(kind, many):
    """A word nested so deep in one kind."""
    thing = W
    for _ in range(many - 1):
        thing = {"then": ("then", HERE, thing), "or": ("or", thing, HERE), "times": ("times", 0, 1, thing)}.get(kind, (kind, thing))
    return thing


def wide(many, kind="then"):
    """An expression of just this size, nested as little as can be."""
    return W if many == 1 else (kind, wide(many // 2, kind), wide(many - many // 2, kind))


NONE = odd_things() + [
    "any", "word", ["any"], ("ANY",), ("an",), ("any", "ab"), ("any", ()), ("here", 1), ("here", HERE), ("word",), ("back",), ("word", "a"), ("word", "abc"), ("word", "AB"),
    ("word", ""), ("word", 5), ("word", None), ("word", "ab", "ab"), ("back", "a b"), ("back", ("ab",)), ["word", "ab"], ("words", "ab"), ("node",), ("node", "<"),
    ("node", "<", 1, 1), ("node", "<", None), ("node", "<", True), ("node", "<", "1"), ("node", "<", TOP + 1), ("node", "=", -TOP - 1), ("node", "<=", 1),
    ("node", "", 1), ("node", 1, "<"), ("node", ("<",), 1), ("node", ["<"], 1), ("node", None, 1), ("node", {}, 1), ("then",), ("then", W), ("then", W, W, W), ("then", W, None),
    ("then", None, W), ("then", W, [W]), ("then", (W, W)), ["then", W, W], ("or",), ("or", W), ("or", W, W, W), ("or", (), W), ("star",), ("star", W, W), ("star", ()),
    ("star", None), ("star", "ab"), ("star", ["any"]), ("plus",), ("plus", W, W), ("plus", 5), ("maybe",), ("maybe", W, W), ("maybe", deep(38)), ("times",),
    ("times", W), ("times", 1, W), ("times", 1, 2), ("times", 1, 2, W, W), ("times", W, 1, 2), ("times", 2, 1, W), ("times", 0, 0, W), ("times", 9, 8, W),
    ("times", 0, 10, W), ("times", 10, 10, W), ("times", -1, 1, W), ("times", -1, -1, W), ("times", False, 1, W), ("times", 0, True, W), ("times", "0", 1, W),
    ("times", 0, "1", W), ("times", None, 1, W), ("times", 0, None, W), ("times", 1, 2, None), ("times", (0,), (1,), W), ("times", 10 ** 59, 10 ** 59, W),
    (W,), (W, W), (None, W), (5, W), ((), W), ({}, W), ("", W), ("then", W, ("times", 2, 1, W)), ("star", ("star", ("star", ("any", 1)))),
    ("or", wide(150), wide(151)), ("or",) + (W,) * 19999, ("star", deep(39)), ("star", deep(38, list)), {"star": W}]


class Expressions(Case):
    def test_all_kinds(self):
        for thing, many in [(W, 1), (("back", "zz"), 1), (("any",), 1), (HERE, 1), (("then", W, HERE), 2), (("or", W, W), 2), (("star", W), 1), (("plus", W), 1),
                            (("maybe", W), 1), (("times", 0, 9, W), 9), (("times", 9, 9, W), 9), (("times", 0, 1, W), 1), (("times", 2, 3, ("then", W, W)), 6),
                            (("or", ("star", ("then", W, HERE)), ("times", 0, 2, ("maybe", ("or", W, ("node", "<", 0))))), 6)]:
            self.same((is_expression(thing), size(thing)), (True, many))
        for sign in SIGNS:
            for worth in (-TOP, 0, TOP):
                self.same((is_expression(("node", sign, worth)), size(("node", sign, worth))), (True, 1))

    def test_times_at_the_bounds(self):
        for least in range(-1, 12):
            for most in range(-1, 12):
                thing = ("times", least, most, W)
                goes = 0 <= least <= most <= 9 and most > 0
                self.same(is_expression(thing), goes)
                if goes:
                    self.same(size(thing), most)
                else:
                    self.raises(NoExpression, size, thing)

    def test_nested_thirty_deep(self):
        for kind in ("then", "or", "star", "plus", "maybe", "times"):
            for many, goes in ((29, True), (30, True), (31, False), (40, False)):
                thing = nested(kind, many)
                self.same(is_expression(thing), goes)
                if goes:
                    self.same(size(thing), plain_size(thing))
                    self.same(plain_size(turned_expression(thing)), size(thing))
                else:
                    self.raises(NoExpression, size, thing)
                    self.raises(NoExpression, turned_expression, thing)

    def test_sizes_up_to_three_hundred(self):
        for many, goes in ((299, True), (300, True), (301, False), (302, False), (5000, False)):
            for kind in ("then", "or"):
                self.same(is_expression(wide(many, kind)), goes)
            if goes:
                self.same(size(wide(many)), many)
            else:
                self.raises(NoExpression, size, wide(many))
        for times, many, goes in ((2, 150, True), (2, 151, False), (3, 100, True), (9, 33, True), (9, 34, False), (1, 300, True), (1, 301, False)):
            thing = ("times", 0, times, wide(many))
            self.same(is_expression(thing), goes)
            if goes:
                self.same(size(thing), times * many)
        self.same(size(("times", 5, 5, ("times", 0, 6, ("plus", wide(10))))), 300)
        self.same(is_expression(("times", 5, 5, ("times", 0, 7, ("plus", wide(9))))), False)
        self.same(is_expression(("then", ("times", 9, 9, wide(33)), wide(3))), True)
        self.same(is_expression(("then", ("times", 9, 9, wide(33)), wide(4))), False)

    def test_drawn(self):
        for seed in range(200):
            draw = drawn(seed)
            thing = drawn_expression(draw, draw.randrange(1, 7))
            many = plain_size(thing)
            self.same(is_expression(thing), many <= 300)
            if many <= 300:
                self.same(size(thing), many)
                back = turned_expression(thing)
                self.same((is_expression(back), size(back), turned_expression(back)), (True, many, thing))

    def test_none(self):
        for thing in NONE:
            with self.subTest(thing=repr(thing)[:80]):
                self.same(is_expression(thing), False)
                for call in (size, turned_expression):
                    self.raises(NoExpression, call, thing)
                for other in (None, PATH, ()):
                    self.raises(NoExpression, stretches, thing, GRAPH, other)
                    self.raises(NoExpression, matches, thing, GRAPH, other)

    def test_one_thing_otherwise(self):
        """Of an expression a part, however deep, is taken out, made a list, or exchanged for what is none."""
        for seed in range(150):
            draw = drawn(seed)
            thing = drawn_expression(draw, draw.randrange(2, 5))
            ways = list(self.ways_into(thing))
            way = draw.choice(ways)
            for wrong in (None, (), True, 10 ** 19, "aBc", ["any"], ("star",), ("node", "<", TOP + 1)):
                other = self.exchanged(thing, way, wrong)
                self.same(is_expression(other), False)
                self.raises(NoExpression, turned_expression, other)

    def ways_into(self, thing):
        for k, part in enumerate(thing):
            yield (k,)
            if isinstance(part, tuple):
                for way in self.ways_into(part):
                    yield (k, *way)

    def exchanged(self, thing, way, part):
        k, *rest = way
        return (*thing[:k], self.exchanged(thing[k], rest, part) if rest else part, *thing[k + 1:])

    def test_turned(self):
        for thing, back in [(W, ("back", "ab")), (("back", "ab"), W), (("any",), ("any",)), (HERE, HERE), (("node", "<", 5), ("node", "<", 5)),
                            (("then", W, ("node", ">", 1)), ("then", ("node", ">", 1), ("back", "ab"))),
                            (("or", W, ("back", "xy")), ("or", ("back", "ab"), ("word", "xy"))),
                            (("star", ("then", W, HERE)), ("star", ("then", HERE, ("back", "ab")))),
                            (("times", 0, 2, ("plus", ("maybe", W))), ("times", 0, 2, ("plus", ("maybe", ("back", "ab"))))),
                            (("then", ("then", W, HERE), ("any",)), ("then", ("any",), ("then", HERE, ("back", "ab"))))]:
            self.same((turned_expression(thing), turned_expression(back)), (back, thing))


class Matching(Case):
    def test_the_example(self):
        g = Graph((("abc", 1), ("def", 2)), ((("abc", "xy", "def"), 5),))
        p, x = ("abc", ("xy", 1), "def"), ("then", ("word", "xy"), ("node", ">", 1))
        self.same((stretches(x, g, p), size(x), turned_expression(x)), ([(0, 1)], 2, ("then", ("node", ">", 1), ("back", "xy"))))

    def test_each_kind(self):
        here = [(i, i) for i in range(7)]
        for thing, told in [
                (W, [(0, 1), (1, 2), (3, 4), (4, 5)]), (("back", "ab"), [(2, 3)]), (("word", "xy"), [(5, 6)]), (("back", "xy"), []),
                (("any",), [(i, i + 1) for i in range(6)]), (HERE, here), (("node", "<", 0), [(0, 0), (5, 5), (6, 6)]), (("node", "=", 0), [(1, 1), (3, 3)]),
                (("node", ">", 0), [(2, 2), (4, 4)]), (("node", ">", TOP), []), (("node", "<", -TOP), []), (("then", W, W), [(0, 2), (3, 5)]),
                (("then", ("node", "=", 0), W), [(1, 2), (3, 4)]), (("or", W, ("word", "xy")), [(0, 1), (1, 2), (3, 4), (4, 5), (5, 6)]),
                (("or", W, W), [(0, 1), (1, 2), (3, 4), (4, 5)]), (("star", ("back", "ab")), sorted([*here, (2, 3)])),
                (("plus", W), [(0, 1), (0, 2), (1, 2), (3, 4), (3, 5), (4, 5)]), (("maybe", ("word", "xy")), sorted([*here, (5, 6)])),
                (("times", 0, 1, ("word", "xy")), sorted([*here, (5, 6)])), (("times", 2, 2, W), [(0, 2), (3, 5)]),
                (("times", 1, 2, W), [(0, 1), (0, 2), (1, 2), (3, 4), (3, 5), (4, 5)]), (("times", 3, 9, W), []),
                (("times", 2, 3, ("any",)), sorted([(i, i + 2) for i in range(5)] + [(i, i + 3) for i in range(4)])),
                (("star", ("any",)), [(i, j) for i in range(7) for j in range(i, 7)]), (("plus", ("any",)), [(i, j) for i in range(7) for j in range(i + 1, 7)]),
                (("star", HERE), here), (("plus", HERE), here), (("plus", ("node", "=", 0)), [(1, 1), (3, 3)]), (("star", ("node", ">", TOP)), here),
                (("plus", ("node", ">", TOP)), []), (("times", 5, 9, ("node", "=", 0)), [(1, 1), (3, 3)]), (("times", 0, 9, ("node", ">", TOP)), here),
                (("star", ("maybe", ("back", "ab"))), sorted([*here, (2, 3)])), (("then", ("star", W), ("star", W)), sorted([*here, (0, 1), (0, 2), (1, 2), (3, 4), (3, 5), (4, 5)])),
                (("star", ("then", ("star", W), ("star", ("back", "ab")))), sorted({(i, j) for i in range(6) for j in range(i, 6)} | {(6, 6)}))]:
            with self.subTest(thing=thing):
                self.same(stretches(thing, GRAPH, PATH), told)
                self.same(matches(thing, GRAPH, PATH), (0, 6) in told)

    def test_a_path_of_no_steps(self):
        for thing, goes in [(W, False), (("any",), False), (HERE, True), (("node", "=", -1), True), (("node", ">", -1), False), (("star", W), True),
                            (("plus", W), False), (("plus", HERE), True), (("maybe", W), True), (("times", 0, 1, W), True), (("times", 1, 2, W), False)]:
            self.same((matches(thing, GRAPH, ("aaa",)), stretches(thing, GRAPH, ("aaa",))), (goes, [(0, 0)] if goes else []))

    def test_against_a_plain_walk(self):
        met = {True: 0, False: 0}
        for seed in range(400):
            draw = drawn(seed)
            graph = drawn_graph(draw, worths=(0, 1, 2))
            path = drawn_path(draw, graph, draw.choice((0, 1, 2, 4, 7)))
            if path is None:
                continue
            thing = drawn_expression(draw, draw.randrange(1, 6))
            if plain_size(thing) > 300:
                continue
            told = plain_matches(thing, graph, path)
            self.same(stretches(thing, graph, path), sorted(told))
            goes = (0, len(path) // 2) in told
            met[goes] += 1
            # the step: the turned one matches the path turned
            self.same((matches(thing, graph, path), matches(turned_expression(thing), graph, turned(path))), (goes, goes))
            many = len(path) // 2
            self.same(stretches(turned_expression(thing), graph, turned(path)), sorted((many - j, many - i) for i, j in told))
        self.assertGreater(min(met.values()), 40)

    def test_long_paths(self):
        graph = Graph((("aaa", 1),), ((("aaa", WORDS[0], "aaa"), 1), (("aaa", WORDS[1], "aaa"), 1)))
        for many in (60, 61):
            path = ("aaa",) + ((WORDS[0], 1), "aaa", (WORDS[1], -1), "aaa") * (many // 2) + ((WORDS[0], 1), "aaa") * (many % 2)
            pair = ("then", ("word", WORDS[0]), ("back", WORDS[1]))
            for kind in ("star", "plus"):
                self.same(matches((kind, pair), graph, path), many % 2 == 0)
                self.same(matches((kind, ("or", pair, ("any",))), graph, path), True)
                self.same(stretches((kind, ("any",)), graph, path), [(i, j) for i in range(many + 1) for j in range(i + (kind == "plus"), many + 1)])
        path = ("aaa",) + ((WORDS[0], 1), "aaa") * 400
        self.same(matches(nested("star", 30), graph, path), False)
        self.same(matches(("plus", ("star", ("word", WORDS[0]))), graph, path), True)
        self.same(len(stretches(("times", 9, 9, ("word", WORDS[0])), graph, path)), 401 - 9)

    def test_deep_and_large_ones(self):
        graph = Graph((("aaa", 1),), ((("aaa", "ab", "aaa"), 1),))
        path = ("aaa",) + (("ab", 1), "aaa") * 20
        for kind in ("star", "plus", "maybe", "times", "or", "then"):
            thing = nested(kind, 30)
            self.same(stretches(thing, graph, path), sorted(plain_matches(thing, graph, path)))
        self.same((matches(wide(20), graph, path), matches(wide(300), graph, path), matches(wide(300, "or"), graph, path)), (True, False, False))

    def test_no_path(self):
        for thing in NO_FORM + NOT_THERE + [PATH, PATH[:4], PATH[1:]]:
            self.raises(NoPath, stretches, W, test_paths.GRAPH, thing)
            self.raises(NoPath, matches, W, test_paths.GRAPH, thing)

    def test_lists_are_new(self):
        stretches(W, GRAPH, PATH).clear()
        self.same(len(stretches(W, GRAPH, PATH)), 4)
