"""Plain searches over small graphs, against which best paths, plans and papers are held."""

from wholeways.automata import automaton

from tests.graphs import NAMES, TOP, WORDS, drawn_expression, drawn_graph, plain_steps, plain_weight
from tests.test_automata import plain_behind

FEW = ("aaa", "abc", "bbb", "mno")


class Spread:
    """All places of a graph and an expression, all steps between them, and the least sums by going over all again and again."""

    def __init__(self, graph, question):
        self.graph, (self.begin, self.expression, self.end) = graph, question
        self.worths, self.m = dict(graph.points), automaton(self.expression)
        self.all = [(name, state) for name in self.worths for state in range(len(self.m.atoms) + 1)]
        self.steps = [(place, (other, after), step, plain_weight(graph, place[0], step, other)) for place in self.all
                      for step, other in plain_steps(graph, place[0]) for after in plain_behind(self.m, self.worths[place[0]], place[1], step)]

    def beginnings(self):
        return [(self.begin, 0)] if self.begin in self.worths else []

    def can_end(self, place):
        return any(state == place[1] and low <= self.worths[place[0]] <= high for state, (low, high) in self.m.ends)

    def ends(self):
        return [place for place in self.all if place[0] == self.end and self.can_end(place)]

    def least(self, starts, steps):
        found, less = {place: 0 for place in starts}, True
        while less:
            less = False
            for one, other, weight in steps:
                if one in found and found[one] + weight < found.get(other, 10 ** 30):
                    found[other], less = found[one] + weight, True
        return found

    def front(self):
        return self.least(self.beginnings(), [(one, other, weight) for one, other, _, weight in self.steps])

    def back(self):
        return self.least(self.ends(), [(other, one, weight) for one, other, _, weight in self.steps])

    def least_sum(self):
        front = self.front()
        return min([front[place] for place in self.ends() if place in front], default=None)

    def sums_to(self):
        found = {}
        for place, total in self.front().items():
            if self.can_end(place):
                found[place[0]] = min(total, found.get(place[0], total))
        return found

    def is_right(self, answer):
        """14.2, word by word, of what has the form of an answer; all steps are looked at."""
        if answer[0] == "none":
            _, side, lot = answer
            own, others = (self.beginnings(), self.ends()) if side == "from" else (self.ends(), self.beginnings())
            steps = [(one, other) if side == "from" else (other, one) for one, other, _, _ in self.steps]
            closed = all(other in lot for one, other in steps if one in lot)
            return set(lot) <= set(self.all) and list(lot) == sorted(set(lot)) and closed and set(own) <= set(lot) and not set(others) & set(lot)
        _, path, rest, sums = answer
        total = sum(plain_weight(self.graph, path[k], path[k + 1], path[k + 2]) for k in range(0, len(path) - 1, 2))
        value = {place: sums.get(place, rest) for place in self.all}
        goes = set(sums) <= set(self.all) and all(0 <= x <= total for x in [rest, *sums.values()])
        goes = goes and all(value[place] == 0 for place in self.beginnings()) and all(value[place] == total for place in self.ends())
        return goes and all(value[other] <= value[one] + weight for one, other, _, weight in self.steps)

    def led(self, plan):
        """15.1, word by word: how far each side has come when a plan ends."""
        sides = []
        for starts in (self.beginnings(), self.ends()):
            sides.append(({place: 0 for place in starts}, set()))
        while True:
            left = [sorted((total, place) for place, total in sums.items() if place not in gone) for sums, gone in sides]
            come = [row[0][0] if row else None for row in left]
            met = [sides[0][0][place] + sides[1][0][place] for place in sides[0][0] if place in sides[1][0]]
            if None in come or (met and sum(come) >= min(met)):
                return tuple(come)
            k = {"forward": 0, "backward": 1, "both": 0 if come[0] <= come[1] else 1}[plan]
            (total, place), (sums, gone) = left[k][0], sides[k]
            gone.add(place)
            for one, other, _, weight in self.steps:
                one, other = (one, other) if k == 0 else (other, one)
                if one == place and total + weight < sums.get(other, 10 ** 30):
                    sums[other] = total + weight


def drawn_question(draw, deep=4, words=WORDS[:3]):
    """A question, its names there or not, its expression of any kind, of no more than a few states."""
    expression = drawn_expression(draw, deep, words)
    while len(automaton(expression).atoms) > 7:
        expression = drawn_expression(draw, deep, words)
    return draw.choice(NAMES[:5]), expression, draw.choice(NAMES[:5])


def drawn_case(draw):
    """A small graph with loops, with ties of several words, weights 0 and great ones, and a question."""
    graph = drawn_graph(draw, FEW, WORDS[:3], worths=(-TOP, 0, 1, 2, TOP), chance=draw.choice((0.15, 0.3, 0.5)))
    return graph, drawn_question(draw)


def node_name(k):
    return "".join("abcdefghijklmnopqrstuvwxyz"[k // 26 ** i % 26] for i in (2, 1, 0))
