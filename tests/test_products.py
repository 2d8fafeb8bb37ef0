"""Promise 14.1, as far as the products go: questions, and the steps between places."""

from wholeways.automata import automaton, next_places
from wholeways.errors import NoPlace, NoQuestion
from wholeways.graph import Graph
from wholeways.products import is_question, steps_from, steps_to

from tests.graphs import NAMES, drawn_graph, plain_steps, plain_weight
from tests.helping import Case, deep, drawn, odd_things
from tests.test_automata import drawn_one, plain_automaton, plain_behind
from tests.test_expressions import NONE, nested, wide

W = ("word", "ab")
GRAPH = Graph((("abc", 1), ("def", 2)), ((("abc", "ab", "def"), 5), (("def", "ab", "def"), 0)))
QUESTION = ("abc", W, "def")


class Questions(Case):
    def test_questions(self):
        for thing in [QUESTION, ("abc", ("here",), "abc"), ("zzz", ("any",), "aaa"), ("abc", nested("star", 30), "def"), ("abc", wide(300), "def")]:
            self.same(is_question(thing), True)

    def test_none(self):
        names = odd_things() + ["ab", "abcd", "ABC", "", 5, ("abc",), ["abc"]]
        wrong = odd_things() + [("abc", W), ("abc", W, "def", "ghi"), ["abc", W, "def"], (W, "abc", "def"), ("abc", "def", W), "abc", ("abc", nested("star", 31), "def"),
                                ("abc", wide(301), "def"), ("abc", deep(39), "def"), (deep(39), W, "def")]
        wrong += [(name, W, "def") for name in names] + [("abc", W, name) for name in names] + [("abc", thing, "def") for thing in NONE]
        for thing in wrong:
            with self.subTest(thing=repr(thing)[:60]):
                self.same(is_question(thing), False)
                for call in (steps_from, steps_to):
                    self.raises(NoQuestion, call, GRAPH, thing, ("abc", 0))
                    self.raises(NoQuestion, call, GRAPH, thing, None)


class Steps(Case):
    def test_some(self):
        self.same(steps_from(GRAPH, QUESTION, ("abc", 0)), [(("def", 1), ("ab", 1), 5)])
        self.same(steps_to(GRAPH, QUESTION, ("def", 1)), [(("abc", 0), ("ab", 1), 5), (("def", 0), ("ab", 1), 0)])
        self.same((steps_from(GRAPH, QUESTION, ("def", 1)), steps_to(GRAPH, QUESTION, ("abc", 0)), steps_to(GRAPH, QUESTION, ("def", 0))), ([], [], []))
        back = ("abc", ("star", ("or", ("back", "ab"), ("any",))), "abc")
        self.same(steps_to(GRAPH, back, ("abc", 1)), [(("def", state), ("ab", -1), 5) for state in range(3)])
        self.same(steps_to(GRAPH, back, ("def", 2)), sorted([(("abc", state), ("ab", 1), 5) for state in range(3)]
                                                            + [(("def", state), ("ab", way), 0) for state in range(3) for way in (1, -1)]))

    def test_by_the_worth_of_the_node_ahead(self):
        question = ("abc", ("then", ("node", "=", 1), W), "def")
        self.same(steps_to(GRAPH, question, ("def", 1)), [(("abc", 0), ("ab", 1), 5)])
        self.same((steps_from(GRAPH, question, ("def", 0)), steps_from(GRAPH, question, ("abc", 0))), ([], [(("def", 1), ("ab", 1), 5)]))

    def test_against_each_other(self):
        many = 0
        for seed in range(150):
            draw = drawn(seed)
            graph, expression = drawn_graph(draw, NAMES[:4], worths=(0, 1, 2), chance=0.4), drawn_one(draw, 4)
            question = (draw.choice(NAMES), expression, draw.choice(NAMES))
            m = automaton(expression)
            self.same((m.atoms, m.moves, m.ends), plain_automaton(expression))
            places = [(name, state) for name, _ in graph.points for state in range(len(m.atoms) + 1)]
            back = {place: [] for place in places}
            for place in places:
                name, state = place
                told = sorted(((other, after), step, plain_weight(graph, name, step, other)) for step, other in plain_steps(graph, name)
                              for after in plain_behind(m, dict(graph.points)[name], state, step))
                self.same(steps_from(graph, question, place), told)
                self.same(next_places(m, graph, place), told)
                for other, step, weight in told:
                    back[other].append((place, step, weight))
                    many += 1
            for place in places:
                self.same(steps_to(graph, question, place), sorted(back[place]))
        self.assertGreater(many, 1000)

    def test_names_that_are_not_there(self):
        """A question may name nodes that the graph has not; a place may not."""
        question = ("zzz", W, "yyy")
        self.same(steps_from(GRAPH, question, ("abc", 0)), [(("def", 1), ("ab", 1), 5)])
        self.same(steps_to(GRAPH, question, ("abc", 1)), [])
        for call in (steps_from, steps_to):
            self.raises(NoPlace, call, GRAPH, question, ("zzz", 0))

    def test_no_place(self):
        wrong = odd_things() + [("abc",), ("abc", 2), ("abc", -1), ("abc", True), ("abc", None), ("abc", "0"), ("abc", 0, 0), ["abc", 0], ("ghi", 0), (0, "abc"),
                                "abc", ("abc", 10 ** 59), (None, 0), (["abc"], 0), (deep(39), 0), ("abc", deep(39))]
        for thing in wrong:
            with self.subTest(thing=repr(thing)[:60]):
                for call in (steps_from, steps_to):
                    self.raises(NoPlace, call, GRAPH, QUESTION, thing)

    def test_lists_are_new(self):
        for call, place in ((steps_from, ("abc", 0)), (steps_to, ("def", 1))):
            call(GRAPH, QUESTION, place).clear()
            self.assertTrue(call(GRAPH, QUESTION, place))
        self.same(QUESTION, ("abc", ("word", "ab"), "def"))
