"""Promises 13.4 and 13.5: automata of expressions."""

from wholeways.automata import (Automaton, ahead, automaton, behind, can_end, comes, ends_with, next_places, passes, run,
                                wants)
from wholeways.errors import NoExpression, NoPath, NoPlace
from wholeways.expressions import is_expression, matches
from wholeways.graph import Graph

from tests import test_paths
from tests.graphs import NAMES, TOP, WORDS, drawn_expression, drawn_graph, drawn_path, plain_size, plain_steps, plain_weight, plain_worths
from tests.helping import Case, deep, drawn, odd_things
from tests.test_expressions import NONE, nested, wide
from tests.test_paths import NO_FORM, NOT_THERE

ALL = (-TOP, TOP)
W = ("word", "ab")
ANY = ("any",)


def greatest(rows):
    """Of triples or pairs with a stretch those with a worth, and no other one alike about a greater stretch."""
    def place(row):
        return [k for k, part in enumerate(row) if isinstance(part, tuple)][0]

    def within(row, other):
        k = place(row)
        return other != row and other[:k] == row[:k] and other[k + 1:] == row[k + 1:] and other[k][0] <= row[k][0] and row[k][1] <= other[k][1]

    rows = {row for row in rows if row[place(row)][0] <= row[place(row)][1]}
    return {row for row in rows if not any(within(row, other) for other in rows)}


def cut(one, other):
    return max(one[0], other[0]), min(one[1], other[1])


class Plain:
    """The parts of 13.4 as plain sets: empty ones (stretch,), first (stretch, state), last (state, stretch), inner moves."""

    def __init__(self, empty, first, last, inner):
        self.empty, self.first, self.last, self.inner = [greatest(rows) for rows in (empty, first, last, inner)]

    def then(self, other):
        inner = self.inner | other.inner | {(state, cut(one, two), after) for state, one in self.last for two, after in other.first}
        return Plain({(cut(one, two),) for one, in self.empty for two, in other.empty},
                     self.first | {(cut(one, two), state) for one, in self.empty for two, state in other.first},
                     other.last | {(state, cut(one, two)) for one, in other.empty for state, two in self.last}, inner)

    def either(self, other):
        return Plain(self.empty | other.empty, self.first | other.first, self.last | other.last, self.inner | other.inner)

    def again(self):
        return Plain(self.empty, self.first, self.last,
                     self.inner | {(state, cut(one, two), after) for state, one in self.last for two, after in self.first})

    def maybe(self):
        return Plain({(ALL,)} | self.empty, self.first, self.last, self.inner)


def plain_part(expression, atoms):
    kind = expression[0]
    if kind in ("word", "back", "any"):
        atoms.append(expression)
        return Plain(set(), {(ALL, len(atoms))}, {(len(atoms), ALL)}, set())
    if kind == "here":
        return Plain({(ALL,)}, set(), set(), set())
    if kind == "node":
        worth = expression[2]
        return Plain({({"<": (-TOP, worth - 1), "=": (worth, worth), ">": (worth + 1, TOP)}[expression[1]],)}, set(), set(), set())
    if kind == "times":
        parts = [plain_part(expression[3], atoms) for _ in range(expression[2])]
        parts = [part if k < expression[1] else part.maybe() for k, part in enumerate(parts)]
        whole = parts[0]
        for part in parts[1:]:
            whole = whole.then(part)
        return whole
    one = plain_part(expression[1], atoms)
    if kind in ("then", "or"):
        other = plain_part(expression[2], atoms)
        return one.then(other) if kind == "then" else one.either(other)
    return {"star": one.again().maybe(), "plus": one.again(), "maybe": one.maybe()}[kind]


def plain_automaton(expression):
    atoms = []
    whole = plain_part(expression, atoms)
    moves = sorted({(0, stretch, state) for stretch, state in whole.first} | whole.inner)
    ends = sorted({(0, stretch) for stretch, in whole.empty} | whole.last)
    return tuple(atoms), tuple(moves), tuple(ends)


def parts(m):
    return m.atoms, m.moves, m.ends


def is_in(worth, stretch):
    return stretch[0] <= worth <= stretch[1]


def goes_by(atom, step):
    return atom == ANY or step == (atom[1], 1 if atom[0] == "word" else -1)


def plain_behind(m, worth, state, step):
    return tuple(sorted({after for own, stretch, after in m.moves if own == state and is_in(worth, stretch) and goes_by(m.atoms[after - 1], step)}))


def plain_ends(m, worth, state):
    return any(own == state and is_in(worth, stretch) for own, stretch in m.ends)


def plain_runs(m, graph, path):
    """All runs along a path that can end, ascending."""
    worths = plain_worths(graph)
    runs = [(0,)]
    for k in range(0, len(path) - 1, 2):
        runs = [(*row, after) for row in runs for after in plain_behind(m, worths[path[k]], row[-1], path[k + 1])]
    return sorted(row for row in runs if plain_ends(m, worths[path[-1]], row[-1]))


def drawn_one(draw, most_deep=5):
    while True:
        expression = drawn_expression(draw, draw.randrange(1, most_deep + 1))
        if plain_size(expression) <= 40:
            return expression


class Making(Case):
    def test_the_example(self):
        m = automaton(("then", ("word", "xy"), ("node", ">", 1)))
        self.same(parts(m), ((("word", "xy"),), ((0, ALL, 1),), ((1, (2, TOP)),)))

    def test_each_kind(self):
        up, low, zero = (1, TOP), (-TOP, -1), (0, 0)
        for thing, told in [
                (W, ((W,), ((0, ALL, 1),), ((1, ALL),))), (("back", "ab"), ((("back", "ab"),), ((0, ALL, 1),), ((1, ALL),))), (ANY, ((ANY,), ((0, ALL, 1),), ((1, ALL),))),
                (("here",), ((), (), ((0, ALL),))), (("node", ">", 0), ((), (), ((0, up),))), (("node", "<", 0), ((), (), ((0, low),))),
                (("node", "=", 0), ((), (), ((0, zero),))), (("node", "<", -TOP), ((), (), ())), (("node", ">", TOP), ((), (), ())),
                (("node", "<", 1 - TOP), ((), (), ((0, (-TOP, -TOP)),))), (("node", "=", TOP), ((), (), ((0, (TOP, TOP)),))),
                (("then", W, ANY), ((W, ANY), ((0, ALL, 1), (1, ALL, 2)), ((2, ALL),))), (("or", W, ANY), ((W, ANY), ((0, ALL, 1), (0, ALL, 2)), ((1, ALL), (2, ALL)))),
                (("then", ("node", "<", 0), W), ((W,), ((0, low, 1),), ((1, ALL),))), (("then", W, ("node", "<", 0)), ((W,), ((0, ALL, 1),), ((1, low),))),
                (("then", ("node", "<", 0), ("node", ">", 0)), ((), (), ())), (("then", ("node", "<", 5), ("node", ">", 0)), ((), (), ((0, (1, 4)),))),
                (("or", ("node", "<", 5), ("node", ">", 0)), ((), (), ((0, (-TOP, 4)), (0, up)))), (("or", ("node", "<", 5), ("node", "=", 4)), ((), (), ((0, (-TOP, 4)),))),
                (("or", ("node", "=", 4), ("node", "=", 5)), ((), (), ((0, (4, 4)), (0, (5, 5))))), (("or", ("node", "=", 4), ("here",)), ((), (), ((0, ALL),))),
                (("star", W), ((W,), ((0, ALL, 1), (1, ALL, 1)), ((0, ALL), (1, ALL)))), (("plus", W), ((W,), ((0, ALL, 1), (1, ALL, 1)), ((1, ALL),))),
                (("maybe", W), ((W,), ((0, ALL, 1),), ((0, ALL), (1, ALL)))), (("maybe", ("node", "<", 0)), ((), (), ((0, ALL),))),
                (("plus", ("node", "<", 0)), ((), (), ((0, low),))), (("star", ("node", "<", 0)), ((), (), ((0, ALL),))),
                (("plus", ("maybe", W)), ((W,), ((0, ALL, 1), (1, ALL, 1)), ((0, ALL), (1, ALL)))),
                (("times", 1, 3, W), ((W, W, W), ((0, ALL, 1), (1, ALL, 2), (1, ALL, 3), (2, ALL, 3)), ((1, ALL), (2, ALL), (3, ALL)))),
                (("times", 2, 2, W), ((W, W), ((0, ALL, 1), (1, ALL, 2)), ((2, ALL),))),
                (("times", 0, 2, W), ((W, W), ((0, ALL, 1), (0, ALL, 2), (1, ALL, 2)), ((0, ALL), (1, ALL), (2, ALL)))),
                (("times", 0, 2, ("node", "=", 5)), ((), (), ((0, ALL),))), (("times", 2, 3, ("node", "<", 5)), ((), (), ((0, (-TOP, 4)),))),
                (("then", W, ("then", ("or", ("node", "<", 5), ("node", ">", 0)), W)), ((W, W), ((0, ALL, 1), (1, (-TOP, 4), 2), (1, up, 2)), ((2, ALL),))),
                (("then", W, ("then", ("node", "=", 0), ("or", W, ("node", "=", 1)))), ((W, W), ((0, ALL, 1), (1, zero, 2)), ((2, ALL),))),
                (("plus", ("then", ("node", "<", 0), ("then", W, ("node", ">", -5)))), ((W,), ((0, low, 1), (1, (-4, -1), 1)), ((1, (-4, TOP)),))),
                (("plus", ("then", ("node", "<", 0), ("then", W, ("node", ">", 5)))), ((W,), ((0, low, 1),), ((1, (6, TOP)),)))]:
            with self.subTest(thing=thing):
                self.same(parts(automaton(thing)), told)

    def test_stretches_that_meet(self):
        """Of stretches that lie side by side, or have some worths in common, each is kept as it is."""
        one = ("or", ("node", "<", 3), ("node", ">", 7))
        other = ("or", ("node", "<", 9), ("or", ("node", "=", 5), ("node", ">", 1)))
        told = ((-TOP, 2), (2, 2), (8, 8), (8, TOP))
        self.same(automaton(("then", one, other)).ends, ((0, (-TOP, 2)), (0, (8, TOP))))
        self.same(parts(automaton(("then", other, one))), parts(automaton(("then", one, other))))
        self.assertTrue(set(stretch for _, stretch in automaton(("then", one, other)).ends) <= set(told))
        halves = ("or", ("node", "<", 5), ("or", ("node", ">", 4), ("node", "=", 4)))
        self.same(automaton(halves).ends, ((0, (-TOP, 4)), (0, (5, TOP))))
        over = ("or", ("then", ("node", ">", 0), ("node", "<", 10)), ("then", ("node", ">", 5), ("node", "<", 15)))
        further = ("or", ("then", ("node", ">", 3), ("node", "<", 12)), ("then", ("node", ">", 4), ("node", "<", 20)))
        self.same(automaton(over).ends, ((0, (1, 9)), (0, (6, 14))))
        self.same(automaton(("then", over, further)).ends, ((0, (4, 9)), (0, (6, 14))))

    def test_against_plain_sets(self):
        for seed in range(500):
            expression = drawn_one(drawn(seed), 6)
            self.same(parts(automaton(expression)), plain_automaton(expression))

    def test_stretches_drawn(self):
        """Rows of many stretches, cut, joined and repeated."""
        for seed in range(200):
            draw = drawn(seed)

            def row(deep):
                if deep == 1:
                    low = draw.randrange(12)
                    return ("then", ("node", ">", low), ("node", "<", low + draw.randrange(1, 7)))
                return (draw.choice(("or", "or", "then")), row(deep - 1), row(deep - 1))

            expression = ("then", row(4), ("then", W, ("then", row(3), ("or", ("back", "ab"), row(2)))))
            for thing in (expression, ("plus", expression), ("times", 1, 2, expression)):
                self.same(parts(automaton(thing)), plain_automaton(thing))

    def test_large_ones(self):
        self.same(len(automaton(wide(300)).atoms), 300)
        self.same(len(automaton(("star", wide(300, "or"))).moves), 300 + 300 * 300)
        for kind in ("then", "or", "star", "plus", "maybe", "times"):
            self.same(parts(automaton(nested(kind, 30))), plain_automaton(nested(kind, 30)))
        self.same(len(automaton(("times", 9, 9, ("times", 3, 3, ("then", W, wide(10))))).atoms), 297)

    def test_no_expression(self):
        for thing in NONE + [nested("star", 31), wide(301)]:
            with self.subTest(thing=repr(thing)[:80]):
                self.raises(NoExpression, automaton, thing)

    def test_equal(self):
        m = automaton(("plus", ("then", W, ("node", "<", 5))))
        self.assertTrue(m == m and m == automaton(("plus", ("then", W, ("node", "<", 5)))) and m == Automaton(m.atoms, m.moves, m.ends))
        self.assertTrue(automaton(("star", W)) == automaton(("maybe", ("plus", W))))
        for other in (Automaton((ANY,), m.moves, m.ends), Automaton(m.atoms, m.moves[1:], m.ends), Automaton(m.atoms, m.moves, ()), automaton(("star", W)),
                      parts(m), None, 0, "a"):
            self.assertFalse(m == other)
            self.assertTrue(m != other)


class Looking(Case):
    def test_against_moves_and_ends(self):
        for seed in range(150):
            expression = drawn_one(drawn(seed))
            m = automaton(expression)
            states = range(len(m.atoms) + 1)
            steps = [(word, way) for word in WORDS for way in (1, -1)]
            for worth in (-TOP, -1, 0, 1, 2, 3, TOP):
                for state in states:
                    self.same(ends_with(m, worth, state), plain_ends(m, worth, state))
                    for step in steps:
                        self.same(behind(m, worth, state, step), plain_behind(m, worth, state, step))
                        self.same(ahead(m, worth, state, step), tuple(own for own in states if state in plain_behind(m, worth, own, step)))
                    self.same(wants(m, worth, state), self.plain_wants(m, worth, state))
            for state in states:
                self.same(comes(m, state), self.plain_steps_of(m.atoms[state - 1]) if any(after == state for _, _, after in m.moves) else ())

    def plain_steps_of(self, atom):
        if atom == ANY:
            return ("", -1), ("", 1)
        return ((atom[1], 1 if atom[0] == "word" else -1),)

    def plain_wants(self, m, worth, state):
        return tuple(sorted({step for own, stretch, after in m.moves if own == state and is_in(worth, stretch) for step in self.plain_steps_of(m.atoms[after - 1])}))

    def test_wants_and_comes(self):
        m = automaton(("or", ANY, ("or", ("back", "ab"), ("then", ("node", "<", 0), ("then", W, W)))))
        self.same((wants(m, 5, 0), wants(m, -5, 0), wants(m, 5, 1), wants(m, 5, 3), wants(m, 5, 4)),
                  ((("", -1), ("", 1), ("ab", -1)), (("", -1), ("", 1), ("ab", -1), ("ab", 1)), (), (("ab", 1),), ()))
        self.same([comes(m, state) for state in range(5)], [(), (("", -1), ("", 1)), (("ab", -1),), (("ab", 1),), (("ab", 1),)])

    def test_a_state_to_which_nothing_leads(self):
        m = automaton(("then", ("node", ">", TOP), ("then", W, ANY)))
        self.same((m.atoms, m.moves, m.ends), ((W, ANY), ((1, ALL, 2),), ((2, ALL),)))
        self.same([comes(m, state) for state in range(3)], [(), (), (("", -1), ("", 1))])
        self.same((ahead(m, 0, 1, ("ab", 1)), ahead(m, 0, 0, ("ab", 1)), ahead(m, 0, 2, ("zz", -1))), ((), (), (1,)))

    def test_passes(self):
        graph = Graph((("abc", 5), ("def", -TOP)), ())
        for stretch, goes in [((5, 5), True), ((4, 5), True), ((5, 6), True), (ALL, True), ((6, 7), False), ((-TOP, 4), False), ((6, TOP), False)]:
            self.same(passes(graph, "abc", stretch), goes)
        self.same((passes(graph, "def", ALL), passes(graph, "def", (1 - TOP, TOP)), passes(graph, "ghi", ALL)), (True, False, False))


class Running(Case):
    def test_the_example(self):
        g = Graph((("abc", 1), ("def", 2)), ((("abc", "xy", "def"), 5),))
        m = automaton(("then", ("word", "xy"), ("node", ">", 1)))
        self.same((run(m, g, ("abc", ("xy", 1), "def")), next_places(m, g, ("abc", 0))), ((0, 1), [(("def", 1), ("xy", 1), 5)]))

    def test_the_first_of_the_runs(self):
        met = {True: 0, False: 0, "several": 0}
        for seed in range(600):
            draw = drawn(seed)
            graph = drawn_graph(draw, worths=(0, 1, 2))
            path = drawn_path(draw, graph, draw.choice((0, 1, 2, 4, 6)))
            if path is None:
                continue
            expression = drawn_one(draw, 4)
            if seed % 3 == 0:
                expression = ("or", ("star", ("or", ANY, expression)), ("plus", ("or", expression, ANY)))
            m = automaton(expression)
            runs = plain_runs(m, graph, path)
            self.same(run(m, graph, path), runs[0] if runs else None)
            # the step: there is a run exactly if the expression matches
            self.same(matches(expression, graph, path), runs != [])
            met[runs != []] += 1
            met["several"] += len(runs) > 1
        self.assertGreater(min(met.values()), 25)

    def test_a_first_run_that_looks_ahead(self):
        """The least state that can be gone to is not always one that leads to an end."""
        graph = Graph((("aaa", 0), ("bbb", 1)), ((("aaa", "ab", "bbb"), 1), (("bbb", "xy", "aaa"), 1)))
        x = ("or", ("then", W, W), ("or", ("then", W, ("word", "xy")), ("then", ANY, ANY)))
        self.same(run(automaton(x), graph, ("aaa", ("ab", 1), "bbb", ("xy", 1), "aaa")), (0, 3, 4))
        self.same(run(automaton(x), graph, ("aaa", ("xy", -1), "bbb", ("xy", 1), "aaa")), (0, 5, 6))
        self.same(run(automaton(x), graph, ("aaa", ("ab", 1), "bbb")), None)
        self.same((run(automaton(("here",)), graph, ("aaa",)), run(automaton(W), graph, ("aaa",))), ((0,), None))

    def test_a_first_run_that_looks_ahead_at_worths(self):
        graph = Graph((("aaa", 0), ("bbb", 1)), ((("aaa", "ab", "bbb"), 1), (("bbb", "xy", "aaa"), 1)))
        path = ("aaa", ("ab", 1), "bbb", ("xy", 1), "aaa")
        for sign, worth, told in (("=", 1, (0, 1, 2)), ("=", 0, (0, 3, 4)), ("<", 1, (0, 3, 4)), (">", 0, (0, 1, 2))):
            x = ("or", ("then", ANY, ("then", ("node", sign, worth), ANY)), ("then", ANY, ANY))
            self.same(run(automaton(x), graph, path), told)
            self.same(run(automaton(x[1]), graph, path), told if told == (0, 1, 2) else None)

    def test_with_many_tests_of_worths(self):
        """Between any two steps of an expression stands a test of worths."""
        met = {True: 0, False: 0}
        for seed in range(300):
            draw = drawn(seed)
            graph = drawn_graph(draw, worths=(0, 1, 2))
            path = drawn_path(draw, graph, draw.choice((1, 2, 3, 5)))
            if path is None:
                continue
            test = ("or", ("node", draw.choice("<=>"), draw.choice((0, 1, 2))), ("node", "=", draw.choice((0, 1, 2))))
            step = ("or", ("then", test, ANY), ("then", ("node", draw.choice("<=>"), 1), ("or", ANY, ("word", draw.choice(WORDS)))))
            expression = ("or", ("times", draw.randrange(3), 3, step), ("plus", ("then", step, test)))
            m = automaton(expression)
            runs = plain_runs(m, graph, path)
            self.same(run(m, graph, path), runs[0] if runs else None)
            self.same(matches(expression, graph, path), runs != [])
            met[runs != []] += 1
        self.assertGreater(min(met.values()), 50)

    def test_long_paths(self):
        graph = Graph((("aaa", 1),), ((("aaa", "ab", "aaa"), 1),))
        path = ("aaa",) + (("ab", 1), "aaa") * 500
        self.same(run(automaton(("star", ("then", W, W))), graph, path), (0,) + (1, 2) * 250)
        self.same(run(automaton(("star", ("then", W, ("then", W, W)))), graph, path), None)
        self.same(run(automaton(("plus", ("or", W, ANY))), graph, path), (0,) + (1,) * 500)

    def test_no_path(self):
        m = automaton(ANY)
        for thing in NO_FORM + NOT_THERE:
            with self.subTest(thing=repr(thing)[:60]):
                self.raises(NoPath, run, m, test_paths.GRAPH, thing)


class Places(Case):
    def test_against_moves_and_ends(self):
        for seed in range(80):
            draw = drawn(seed)
            graph = drawn_graph(draw, worths=(0, 1, 2))
            m = automaton(drawn_one(draw, 4))
            for name, worth in graph.points:
                for state in range(len(m.atoms) + 1):
                    told = sorted(((other, after), step, plain_weight(graph, name, step, other)) for step, other in plain_steps(graph, name)
                                  for after in plain_behind(m, worth, state, step))
                    self.same(next_places(m, graph, (name, state)), told)
                    self.same(can_end(m, graph, (name, state)), plain_ends(m, worth, state))

    def test_a_loop_goes_both_ways(self):
        graph = Graph((("aaa", 1),), ((("aaa", "ab", "aaa"), 7),))
        self.same(next_places(automaton(ANY), graph, ("aaa", 0)), [(("aaa", 1), ("ab", -1), 7), (("aaa", 1), ("ab", 1), 7)])
        self.same(next_places(automaton(("or", ("back", "ab"), W)), graph, ("aaa", 0)), [(("aaa", 1), ("ab", -1), 7), (("aaa", 2), ("ab", 1), 7)])
        self.same(next_places(automaton(ANY), graph, ("aaa", 1)), [])

    def test_several_ties(self):
        graph = Graph((("aaa", 1), ("bbb", 2)), ((("aaa", "ab", "bbb"), 7), (("aaa", "xy", "bbb"), 3), (("bbb", "ab", "aaa"), 5)))
        self.same(next_places(automaton(("star", ANY)), graph, ("aaa", 0)), [(("bbb", 1), ("ab", -1), 5), (("bbb", 1), ("ab", 1), 7), (("bbb", 1), ("xy", 1), 3)])

    def test_no_place(self):
        graph = Graph((("abc", 1), ("def", 2)), ((("abc", "ab", "def"), 1),))
        m = automaton(("then", W, W))
        wrong = odd_things() + [("abc",), ("abc", 3), ("abc", -1), ("abc", True), ("abc", None), ("abc", "0"), ("abc", (0,)), ("abc", 0, 0), ["abc", 0], ("ghi", 0),
                                ("ab", 0), (0, "abc"), "abc", ("abc", 10 ** 59), (None, 0), (("abc",), 0), (["abc"], 0), (deep(39), 0), ("abc", deep(39))]
        for thing in wrong:
            with self.subTest(thing=repr(thing)[:60]):
                self.raises(NoPlace, next_places, m, graph, thing)
                self.raises(NoPlace, can_end, m, graph, thing)
        for state in range(3):
            self.same(can_end(m, graph, ("abc", state)), state == 2)
        for name in NAMES[:1]:
            self.raises(NoPlace, can_end, m, Graph((), ()), (name, 0))

    def test_lists_are_new(self):
        graph = Graph((("abc", 1),), ((("abc", "ab", "abc"), 1),))
        m = automaton(W)
        next_places(m, graph, ("abc", 0)).clear()
        self.same(len(next_places(m, graph, ("abc", 0))), 1)
        self.assertTrue(is_expression(W) and m == automaton(W))
