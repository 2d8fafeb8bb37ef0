"""Promise 13.1: paths."""

from wholeways.errors import NoPath
from wholeways.graph import Graph
from wholeways.paths import is_path, path_weight, turned

from tests.graphs import drawn_graph, drawn_path, plain_weight, plain_worths
from tests.helping import Case, deep, drawn, odd_things

GRAPH = Graph((("abc", 1), ("def", 2), ("ghi", 3)), ((("abc", "xy", "abc"), 7), (("abc", "xy", "def"), 5), (("abc", "yy", "def"), 0),
                                                    (("def", "xy", "abc"), 1), (("def", "zz", "def"), 10 ** 9)))
# what has not the form of a path, whatever the graph
NO_FORM = [thing for thing in odd_things()] + [
    (), "abc", "abcxyzabc", ["abc"], ["abc", ("xy", 1), "def"], ("ab",), ("abcd",), ("ABC",), ("ab1",), (5,), (None,), (("abc",),), (["abc"],), {"abc": 1},
    ("abc", ("xy", 1)), ("abc", "def"), (("xy", 1), "abc"), (("xy", 1), "abc", ("xy", 1)), ("abc", ("xy", 1), "def", ("xy", 1)),
    ("abc", ("xy", 0), "def"), ("abc", ("xy", 2), "def"), ("abc", ("xy", -2), "def"), ("abc", ("xy", True), "def"), ("abc", ("xy", "1"), "def"),
    ("abc", ("xy", None), "def"), ("abc", ("x", 1), "def"), ("abc", ("xyz", 1), "def"), ("abc", ("XY", 1), "def"), ("abc", ("", 1), "def"),
    ("abc", (5, 1), "def"), ("abc", ("xy",), "def"), ("abc", ("xy", 1, 1), "def"), ("abc", ["xy", 1], "def"), ("abc", "xy", "def"), ("abc", (1, "xy"), "def"),
    ("abc", ("xy", 1), ["def"]), ("abc", ("xy", 1), None), (None, ("xy", 1), "def"), ("abc", deep(39), "def"), (deep(39),), ("abc", ("xy", 1), deep(39))]
# what has the form, but is none of this graph
NOT_THERE = [("aaa",), ("zzz", ("xy", 1), "abc"), ("abc", ("xy", 1), "zzz"), ("abc", ("xx", 1), "def"), ("abc", ("xy", 1), "ghi"), ("ghi", ("xy", 1), "ghi"),
             ("abc", ("zz", 1), "abc"), ("abc", ("yy", -1), "def"), ("def", ("yy", 1), "abc"), ("abc", ("xy", 1), "def", ("zz", 1), "abc"),
             ("abc", ("xy", 1), "def", ("xy", 1), "def"), ("ghi", ("xy", 1), "abc", ("xy", 1), "def")]


def long_path(many):
    """So many steps to and fro."""
    path = ["abc"]
    for k in range(many):
        path += [("xy", 1), "def"] if k % 2 == 0 else [("yy", -1), "abc"]
    return tuple(path)


class Paths(Case):
    def test_the_example(self):
        g = Graph((("abc", 1), ("def", 2)), ((("abc", "xy", "def"), 5),))
        p = ("abc", ("xy", 1), "def")
        self.same((is_path(g, p), path_weight(g, p), turned(p)), (True, 5, ("def", ("xy", -1), "abc")))

    def test_along_and_against(self):
        for path, weight in [(("abc",), 0), (("ghi",), 0), (("abc", ("xy", 1), "abc"), 7), (("abc", ("xy", -1), "abc"), 7),
                             (("abc", ("xy", 1), "def"), 5), (("abc", ("yy", 1), "def"), 0), (("abc", ("xy", -1), "def"), 1),
                             (("def", ("xy", 1), "abc"), 1), (("def", ("xy", -1), "abc"), 5), (("def", ("yy", -1), "abc"), 0),
                             (("abc", ("xy", 1), "def", ("zz", 1), "def", ("zz", -1), "def", ("yy", -1), "abc"), 5 + 2 * 10 ** 9)]:
            self.same((is_path(GRAPH, path), path_weight(GRAPH, path)), (True, weight))

    def test_long_ones(self):
        for many in (40, 3001):
            path = long_path(many)
            self.same((is_path(GRAPH, path), path_weight(GRAPH, path)), (True, 5 * ((many + 1) // 2)))
            self.same(turned(turned(path)), path)
            self.same(is_path(GRAPH, (*path, ("zz", 1), "ghi")), False)

    def test_drawn(self):
        for seed in range(120):
            draw = drawn(seed)
            graph = drawn_graph(draw)
            path = drawn_path(draw, graph, draw.randrange(30))
            if path is None:
                continue
            weight = sum(plain_weight(graph, path[k - 1], path[k], path[k + 1]) for k in range(1, len(path), 2))
            self.same((is_path(graph, path), path_weight(graph, path)), (True, weight))
            back = turned(path)
            self.same(back[::2], path[::-2])
            self.same(back[1::2], tuple((word, -way) for word, way in path[-2::-2]))
            self.same((is_path(graph, back), path_weight(graph, back), turned(back)), (True, weight, path))

    def test_one_thing_otherwise(self):
        """A name, a word or a way exchanged: a path just where the tie is there."""
        for seed in range(120):
            draw = drawn(seed)
            graph = drawn_graph(draw)
            path = drawn_path(draw, graph, draw.randrange(6))
            if path is None:
                continue
            other = list(path)
            k = draw.randrange(len(path))
            other[k] = draw.choice(("aaa", "bbb", "xyz", "ooo")) if k % 2 == 0 else (draw.choice(("aa", "xy")), draw.choice((1, -1)))
            goes = all(name in plain_worths(graph) for name in other[::2])
            goes = goes and all(plain_weight(graph, other[k - 1], other[k], other[k + 1]) is not None for k in range(1, len(path), 2))
            self.same(is_path(graph, tuple(other)), goes)
            if not goes:
                self.raises(NoPath, path_weight, graph, tuple(other))

    def test_no_path(self):
        for thing in NO_FORM:
            with self.subTest(thing=repr(thing)[:60]):
                self.same(is_path(GRAPH, thing), False)
                self.raises(NoPath, path_weight, GRAPH, thing)
                self.raises(NoPath, turned, thing)
        for thing in NOT_THERE:
            with self.subTest(thing=thing):
                self.same(is_path(GRAPH, thing), False)
                self.raises(NoPath, path_weight, GRAPH, thing)
                # turned looks at the form alone
                self.same(turned(turned(thing)), thing)

    def test_the_empty_graph_has_none(self):
        graph = Graph((), ())
        for path in (("abc",), ("abc", ("xy", 1), "def")):
            self.same(is_path(graph, path), False)
            self.raises(NoPath, path_weight, graph, path)

    def test_turned(self):
        self.same(turned(("abc",)), ("abc",))
        self.same(turned(("abc", ("ab", 1), "def", ("xy", -1), "ghi")), ("ghi", ("xy", 1), "def", ("ab", -1), "abc"))
