"""Promise 14.2: which answers are right."""

from wholeways.best import best_by
from wholeways.errors import NoQuestion
from wholeways.graph import Graph
from wholeways.papers import is_answer

from tests.helping import Case, deep, drawn, odd_things
from tests.searches import Spread, drawn_case
from tests.test_best import GRAPH, NO_QUESTIONS, PLANS, QUESTION

W = ("word", "ab")
PATH = ("abc", ("xy", 1), "def")
RIGHT = ("path", PATH, 5, {("abc", 0): 0})


def by_all_sums(spread):
    """The answers by the least sums of all places, from both sides, None where no path matches."""
    front, back, least = spread.front(), spread.back(), spread.least_sum()
    if least is None:
        return [("none", "from", tuple(sorted(front))), ("none", "to", tuple(sorted(back)))]
    path = best_by(spread.graph, (spread.begin, spread.expression, spread.end), "both")[1]
    return [("path", path, least, {place: min(total, least) for place, total in front.items()}),
            ("path", path, 0, {place: max(least - total, 0) for place, total in back.items()})]


def with_one_thing_otherwise(draw, spread, answer):
    """An answer with a value, rest, a place of its paper, its path or its word otherwise."""
    place, state = draw.choice([*spread.all, ("zzz", 0), ("abc", 99), ("abc", -1), ("abc", "a")]), draw.randrange(4)
    if answer[0] == "none":
        _, side, lot = answer
        if state == 0 and lot:
            return "none", side, tuple(sorted(set(lot) - {draw.choice(lot)}))
        if state == 1 and place in spread.all:
            return "none", side, tuple(sorted({*lot, place}))
        return ("none", "to" if side == "from" else "from", lot) if state == 2 else ("none", side, lot + (place,))
    _, path, rest, sums = answer
    if state == 0:
        return "path", path, draw.choice((rest - 1, rest + 1, 0, rest // 2, 10 ** 9)), sums
    if state == 1 and sums:
        return "path", path, rest, {other: value for other, value in sums.items() if other != draw.choice(sorted(sums))}
    if state == 2 and sums:
        one = draw.choice(sorted(sums))
        return "path", path, rest, {**sums, one: sums[one] + draw.choice((-1, 1, 10 ** 9))}
    return "path", path, rest, {**sums, place: draw.choice((0, 1, 3, rest))}


class Right(Case):
    def test_e09(self):
        self.same((is_answer(GRAPH, QUESTION, RIGHT), is_answer(GRAPH, QUESTION, ("none", "from", (("abc", 0),)))), (True, False))

    def test_by_the_least_sums(self):
        for seed in range(300):
            graph, question = drawn_case(drawn(seed))
            for answer in by_all_sums(Spread(graph, question)):
                self.same(is_answer(graph, question, answer), True)

    def test_with_one_thing_otherwise(self):
        """Held against 14.2 over all places and steps."""
        told = {}
        for seed in range(500):
            draw = drawn(seed)
            graph, question = drawn_case(draw)
            spread = Spread(graph, question)
            for answer in by_all_sums(spread) + [best_by(graph, question, plan) for plan in PLANS]:
                for _ in range(4):
                    other = with_one_thing_otherwise(draw, spread, answer)
                    kept = repr(other)
                    right = spread.is_right(other)
                    self.assertIs(is_answer(graph, question, other), right, (question, other))
                    self.same(repr(other), kept)
                    told[answer[0], right] = told.get((answer[0], right), 0) + 1
        self.same(len(told), 4)
        self.assertGreater(min(told.values()), 100)

    def test_of_another_kind_none_is_right(self):
        """THE FACT OF ANSWERS: where a path matches no lot is closed, and the other way round."""
        for seed in range(150):
            draw = drawn(seed)
            graph, question = drawn_case(draw)
            spread = Spread(graph, question)
            if spread.least_sum() is not None:
                lots = [spread.all, list(spread.front()), list(spread.back()), []] + [[place for place in spread.all if draw.random() < 0.5] for _ in range(5)]
                for lot in lots:
                    for side in ("from", "to"):
                        self.same(is_answer(graph, question, ("none", side, tuple(sorted(lot)))), False)


class Paths(Case):
    graph = Graph((("aaa", 1), ("bbb", 2), ("ccc", 3)), ((("aaa", "ab", "bbb"), 2), (("aaa", "ab", "ccc"), 9), (("aaa", "xy", "ccc"), 1), (("bbb", "ab", "ccc"), 3)))
    question = ("aaa", ("plus", W), "ccc")
    path = ("aaa", ("ab", 1), "bbb", ("ab", 1), "ccc")
    sums = {("aaa", 0): 0, ("bbb", 1): 2}

    def right(self, path, rest, sums):
        return is_answer(self.graph, self.question, ("path", path, rest, sums))

    def test_the_path(self):
        self.same(self.right(self.path, 5, self.sums), True)
        for path in [("aaa", ("ab", 1), "ccc"), ("aaa", ("xy", 1), "ccc"), ("aaa", ("ab", 1), "bbb"), ("bbb", ("ab", 1), "ccc"), ("aaa",), ("ccc",), (),
                     ("aaa", ("ab", 1), "bbb", ("ab", 1)), list(self.path), ("aaa", ["ab", 1], "bbb", ("ab", 1), "ccc"), ("aaa", ("ab", -1), "bbb", ("ab", 1), "ccc"),
                     ("aaa", ("ab", True), "bbb", ("ab", 1), "ccc"), ("zzz", ("ab", 1), "ccc"), ("aaa", ("ab", 1), "zzz", ("ab", 1), "ccc"), deep(40), "aaa", None,
                     ("aaa", ("ab", 1), "bbb", ("ab", -1), "aaa", ("ab", 1), "bbb", ("ab", 1), "ccc")] + odd_things():
            self.same(self.right(path, 5, self.sums), False)

    def test_paths_of_the_same_sum(self):
        """By values and rest all is right, but the path is not one of the question."""
        points = (("aaa", 1), ("bbb", 2), ("ccc", 3), ("ddd", 4))
        graph = Graph(points, ((("aaa", "ab", "bbb"), 2), (("aaa", "xy", "ccc"), 5), (("bbb", "ab", "ccc"), 3), (("bbb", "ab", "ddd"), 3), (("ddd", "ab", "bbb"), 2)))
        self.same(is_answer(graph, self.question, ("path", self.path, 5, self.sums)), True)
        for path in [("aaa", ("xy", 1), "ccc"), ("aaa", ("ab", 1), "bbb", ("ab", 1), "ddd"), ("ddd", ("ab", 1), "bbb", ("ab", 1), "ccc"), ("aaa", ("ab", 1), "bbb", ("ab", 1), "aaa"), ("ddd", ("ab", 1), "bbb", ("ab", -1), "ddd")]:
            self.same(is_answer(graph, self.question, ("path", path, 5, self.sums)), False)
        # the star of one word, by runs that end in no state, or go by another state
        for expression, goes in [(("star", W), True), (("then", W, W), True), (("then", W, ("then", W, W)), False), (("then", W, ("word", "xy")), False), (("then", ("node", ">", 1), ("plus", W)), False),
                                 (("then", ("plus", W), ("node", "=", 3)), True), (("or", ("word", "xy"), ("then", W, W)), True), (("then", W, ("then", ("node", "=", 9), W)), False)]:
            question = ("aaa", expression, "ccc")
            spread = Spread(graph, question)
            sums = {place: min(total, 5) for place, total in spread.front().items()}
            answer = ("path", self.path, 5, sums)
            self.same(is_answer(graph, question, answer), goes)

    def test_a_longer_path_of_the_same_sum(self):
        graph = Graph(self.graph.points, tuple((triple, 5 if triple == ("aaa", "ab", "ccc") else weight) for triple, weight in self.graph.links))
        for path in (self.path, ("aaa", ("ab", 1), "ccc")):
            self.same(is_answer(graph, self.question, ("path", path, 5, self.sums)), True)

    def test_rest(self):
        for rest in [4, 6, 0, -1, 10 ** 59, True, False, None, "5", (5,), [5]] + odd_things():
            self.same(self.right(self.path, rest, self.sums), False)

    def test_values(self):
        for sums in [{**self.sums, ("bbb", 1): 3}, {**self.sums, ("bbb", 1): 1}, {**self.sums, ("aaa", 0): 1}, {("aaa", 0): 0}, {("bbb", 1): 2}, {}, {**self.sums, ("ccc", 1): 4},
                     {**self.sums, ("ccc", 1): 6}, {**self.sums, ("bbb", 1): True}, {**self.sums, ("aaa", 0): False}, {**self.sums, ("bbb", 1): "2"}, {**self.sums, ("bbb", 1): None},
                     {**self.sums, ("bbb", 1): (2,)}, {**self.sums, ("bbb", 0): -1}, {**self.sums, ("bbb", 0): 6}, {**self.sums, ("bbb", 1): deep(40)}]:
            self.same(self.right(self.path, 5, sums), False)
        for sums in [{**self.sums, ("ccc", 1): 5}, {**self.sums, ("bbb", 0): 5}, {**self.sums, ("bbb", 0): 2}]:
            self.same(self.right(self.path, 5, sums), True)

    def test_places(self):
        wrong = [("zzz", 0), ("aaa", 2), ("aaa", -1), ("aaa", "0"), ("aaa", None), ("aaa",), ("aaa", 0, 0), "aaa", 0, None, (), ("AAA", 0), (0, "aaa"), ("aaa", 10 ** 59), (None, 0),
                 (("aaa",), 0), deep(39), ("aaa", deep(38)), b"a"]
        for place in wrong:
            self.same(self.right(self.path, 5, {**self.sums, place: 5}), False)

    def test_what_is_no_dict(self):
        for sums in odd_things() + [(("aaa", 0), 0), list(self.sums.items()), tuple(self.sums.items()), [self.sums]]:
            self.same(self.right(self.path, 5, sums), False)

    def test_ends_and_the_beginning(self):
        """Ends that rest tells otherwise, a beginning that it tells."""
        graph = Graph((("aaa", 1), ("bbb", 2)), ((("aaa", "ab", "bbb"), 0),))
        for rest, sums, goes in [(0, {}, True), (0, {("aaa", 0): 0}, True), (0, {("aaa", 0): 1}, False), (1, {}, False)]:
            self.same(is_answer(graph, ("aaa", W, "bbb"), ("path", ("aaa", ("ab", 1), "bbb"), rest, sums)), goes)
        graph = Graph((("aaa", 1), ("bbb", 2)), ((("aaa", "ab", "bbb"), 4),))
        for rest, sums, goes in [(0, {("bbb", 1): 4}, True), (4, {("aaa", 0): 0}, True), (2, {("aaa", 0): 0, ("bbb", 1): 4}, True), (2, {("aaa", 0): 0}, False), (2, {("bbb", 1): 4}, False),
                                 (0, {}, False), (4, {}, False), (0, {("bbb", 1): 3}, False)]:
            self.same(is_answer(graph, ("aaa", W, "bbb"), ("path", ("aaa", ("ab", 1), "bbb"), rest, sums)), goes)


class None_(Case):
    # aaa -ab-> bbb, ccc -ab-> ddd: no way from aaa to ddd
    graph = Graph((("aaa", 1), ("bbb", 2), ("ccc", 3), ("ddd", 4)), ((("aaa", "ab", "bbb"), 2), (("ccc", "ab", "ddd"), 9)))
    question = ("aaa", ("plus", W), "ddd")
    front = (("aaa", 0), ("bbb", 1))
    back = (("ccc", 0), ("ccc", 1), ("ddd", 1))

    def right(self, *parts):
        return is_answer(self.graph, self.question, parts)

    def test_closed_lots(self):
        for side, lot in [("from", self.front), ("to", self.back), ("from", self.front + (("ddd", 0),)), ("to", (("aaa", 1),) + self.back), 
                          ("from", (("aaa", 0), ("aaa", 1), ("bbb", 0), ("bbb", 1), ("ddd", 0)))]:
            self.same(self.right("none", side, lot), True)

    def test_lots_that_are_not_closed(self):
        for side, lot in [("from", ()), ("from", self.front[:1]), ("from", self.front[1:]), ("from", self.front + (("ddd", 1),)), ("from", self.front + (("ccc", 1), ("ddd", 1))),
                          ("from", self.front + (("ccc", 0),)), ("to", ()), ("to", self.back[1:]), ("to", self.back[:2]), ("to", (("aaa", 0),) + self.back), ("to", self.back[:1] + self.back[2:]),
                          ("to", self.front), ("from", self.back), ("to", (("bbb", 1),) + self.back)]:
            self.same(self.right("none", side, lot), False)

    def test_the_form(self):
        for lot in [self.front[::-1], self.front + self.front[-1:], list(self.front), self.front + (("zzz", 0),), self.front + (("ddd", 2),), self.front + (("ddd", -1),), self.front + (("ddd", False),),
                    self.front + (("ddd", "0"),), self.front + (("ddd",),), self.front + (("ddd", 0, 0),), self.front + (["ddd", 0],), self.front + (None,), dict.fromkeys(self.front),
                    self.front + (deep(38),), "from"] + odd_things():
            self.same(self.right("none", "from", lot), False)
        for side in ["From", "", "fro", "to", None, ("from",), 0] + odd_things():
            self.same(self.right("none", side, self.front), False)
        for side in ["To", "", "t", "from", "front", None, ("to",), 0] + odd_things():
            self.same(self.right("none", side, self.back), False)
        for thing in [("none", "from"), ("none", "from", self.front, ()), ("none",), ("None", "from", self.front), ["none", "from", self.front], (self.front, "from", "none"), ("path", "from", self.front),
                      ("none", *RIGHT[1:]), (("none",), "from", self.front), (None, "from", self.front), deep(40), {"none": ("from", self.front)}] + odd_things():
            self.same(is_answer(self.graph, self.question, thing), False)

    def test_ends_that_are_not_there(self):
        for question, side, goes in [(("zzz", W, "ddd"), "from", True), (("aaa", W, "zzz"), "to", True), (("aaa", W, "zzz"), "from", False), (("zzz", W, "ddd"), "to", False),
                                     (("zzz", W, "zzz"), "from", True), (("zzz", W, "zzz"), "to", True), (("aaa", ("node", ">", 9), "ddd"), "to", True)]:
            self.same(is_answer(self.graph, question, ("none", side, ())), goes)
            self.same(is_answer(Graph((), ()), question, ("none", side, ())), True)
        self.same(is_answer(self.graph, ("zzz", ("plus", W), "ddd"), ("none", "to", self.back)), True)


class Form(Case):
    def test_parts(self):
        for thing in [RIGHT + (None,), RIGHT[:3], RIGHT[:2], RIGHT[1:], ("Path",) + RIGHT[1:], ("",) + RIGHT[1:], (None,) + RIGHT[1:], list(RIGHT), {"path": RIGHT}, (), (RIGHT,), ("none",) + RIGHT[1:],
                      ("path", RIGHT), ("path", PATH, {("abc", 0): 0}, 5), ("path", PATH, 5, {("abc", 0): 0}, {}), (("path",),) + RIGHT[1:]] + odd_things():
            self.same(is_answer(GRAPH, QUESTION, thing), False)

    def test_no_question_ahead_of_all(self):
        for question in NO_QUESTIONS:
            for thing in (RIGHT, None, deep(40)):
                self.raises(NoQuestion, is_answer, GRAPH, question, thing)

    def test_great_things(self):
        names = [first + second + third for first in "abcdef" for second in "abcdefghij" for third in "abcdefghij"]
        graph = Graph(tuple((name, 0) for name in names), tuple(((names[k], "ab", names[k + 1]), 10 ** 9) for k in range(len(names) - 1)))
        question = (names[0], ("star", ("plus", ("or", ("any",), W))), names[-1])
        for plan in PLANS:
            answer = best_by(graph, question, plan)
            self.same(is_answer(graph, question, answer), True)
            self.same(is_answer(graph, question, answer[:2] + (answer[2] + 1,) + answer[3:]), False)
        lot = tuple((name, state) for name in names for state in range(3))
        self.same(is_answer(graph, question, ("none", "from", lot)), False)
