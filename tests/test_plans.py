"""Promises 15.1 and 15.2: plans, what they weigh, and how far each side comes."""

from wholeways.best import best_by
from wholeways.errors import NoPlan, NoQuestion, NotOpen
from wholeways.graph import Graph, pairs_of
from wholeways.paths import path_weight
from wholeways.plans import chosen, chosen_in, reach, weighed
from wholeways.store import new_store

from tests.helping import Case, drawn, odd_things
from tests.searches import Spread, drawn_case
from tests.test_best import GRAPH, NO_PLANS, NO_QUESTIONS, PLANS, QUESTION
from tests.test_store import put_all

W = ("word", "ab")
ANY = ("any",)
NAMES = [first + second + "a" for first in "abcdefgh" for second in "abc"]


def star_graph(out, into):
    """From aaa so many ties lead on, to zzz so many."""
    nodes = [("aaa", 0), ("zzz", 0)] + [(name, 0) for name in NAMES[1:]]
    ties = [(("aaa", "ab", name), 1) for name in NAMES[1:out + 1]] + [((name, "cd", "zzz"), 1) for name in NAMES[1:into + 1]]
    return Graph(tuple(sorted(nodes)), tuple(sorted(ties)))


class Weighed(Case):
    def test_e09(self):
        self.same((weighed(GRAPH, QUESTION), chosen(GRAPH, QUESTION)), ((1, 1), "both"))

    def test_the_bounds(self):
        """Twice the one just at most the other."""
        question = ("aaa", ("then", W, ("word", "cd")), "zzz")
        for out in range(9):
            for into in range(9):
                graph = star_graph(out, into)
                self.same(weighed(graph, question), (out, into))
                plan = "forward" if 2 * out <= into else "backward" if 2 * into <= out else "both"
                self.same(chosen(graph, question), plan)
                store = new_store(600, 200)
                if out + into in (5, 9, 12):
                    for pairs in (pairs_of(Graph(graph.points, ())), pairs_of(Graph(graph.points, graph.links))):
                        store.commit(put_all(store, pairs))
                    number = store.begin()
                    self.same(chosen_in(store, number, question), plan)

    def test_against_all_steps(self):
        """The steps from the beginning, and to all ends together."""
        plans, many = {}, 0
        for seed in range(300):
            graph, question = drawn_case(drawn(seed))
            spread = Spread(graph, question)
            beginnings, ends = spread.beginnings(), spread.ends()
            told = (len([one for one, _, _, _ in spread.steps if one in beginnings]), len([other for _, other, _, _ in spread.steps if other in ends]))
            self.same(weighed(graph, question), told)
            plan = "forward" if 2 * told[0] <= told[1] else "backward" if 2 * told[1] <= told[0] else "both"
            self.same(chosen(graph, question), plan)
            plans[plan], many = plans.get(plan, 0) + 1, many + (len(ends) > 1)
            if seed % 3 == 0:
                store = new_store(600, 250)
                store.commit(put_all(store, pairs_of(graph)))
                number = store.begin()
                self.same(chosen_in(store, number, question), plan)
                self.same(store.wrote(number), ())
        self.assertGreater(min(plans.values()), 20)
        self.assertGreater(many, 30)

    def test_own_changes_are_weighed(self):
        store = new_store(200, 60)
        store.commit(put_all(store, pairs_of(GRAPH)))
        number = store.begin()
        self.same(chosen_in(store, number, QUESTION), "both")
        store.drop(number, "tabcxydef")
        store.drop(number, "rdefxyabc")
        self.same((chosen_in(store, number, QUESTION), chosen_in(store, store.begin(), QUESTION)), ("forward", "both"))

    def test_names_that_are_not_there(self):
        self.same((weighed(GRAPH, ("zzz", ANY, "def")), weighed(GRAPH, ("abc", ANY, "zzz")), weighed(GRAPH, ("zzz", ANY, "zzz"))), ((0, 1), (1, 0), (0, 0)))
        self.same((chosen(GRAPH, ("zzz", ANY, "def")), chosen(GRAPH, ("abc", ANY, "zzz")), chosen(GRAPH, ("zzz", ANY, "zzz"))), ("forward", "backward", "forward"))

    def test_wrong_questions(self):
        store = new_store(64, 24)
        number = store.begin()
        for thing in NO_QUESTIONS:
            for call in (weighed, chosen):
                self.raises(NoQuestion, call, GRAPH, thing)
            self.raises(NoQuestion, chosen_in, store, number, thing)
            self.raises(NoQuestion, reach, GRAPH, thing, None)
            self.raises(NoQuestion, reach, GRAPH, thing, "both")
        for wrong in odd_things() + [5, "1"]:
            self.raises(NotOpen, chosen_in, store, wrong, None)
            self.raises(NotOpen, chosen_in, store, wrong, QUESTION)
        self.same(store.seen(number), (0, (), (), ()))


class Reach(Case):
    def test_against_a_plain_leading(self):
        told = {}
        for seed in range(500):
            graph, question = drawn_case(drawn(seed))
            spread = Spread(graph, question)
            for plan in PLANS:
                self.same(reach(graph, question, plan), spread.led(plan))
                come = tuple(side is None for side in spread.led(plan))
                told[plan, come] = told.get((plan, come), 0) + 1
        for plan in PLANS:
            for come in ((False, False), (True, False), (False, True)):
                self.assertGreater(told[plan, come], 5, (plan, come))

    def test_a_row(self):
        """Each side goes on until both together have come as far as the way."""
        names = NAMES[:9]
        graph = Graph(tuple((name, 0) for name in names), tuple(((names[k], "ab", names[k + 1]), 2) for k in range(8)))
        question = (names[0], ("star", W), names[-1])
        self.same([reach(graph, question, plan) for plan in PLANS], [(16, 0), (0, 16), (8, 8)])
        uneven = Graph(graph.points, tuple((triple, 10 if k == 0 else 1) for k, (triple, _) in enumerate(graph.links)))
        # the front stands at 0, goes on first, and stands at 10 then; so the back goes on until both make 17
        self.same(reach(uneven, question, "both"), (10, 7))
        turned = Graph(graph.points, tuple((triple, 10 if k == 7 else 1) for k, (triple, _) in enumerate(graph.links)))
        self.same(reach(turned, question, "both"), (7, 10))

    def test_sides_without_places(self):
        """None from the start on, and None of a side that ran out."""
        for plan in PLANS:
            self.same(reach(GRAPH, ("zzz", ANY, "def"), plan), (None, 0))
            self.same(reach(GRAPH, ("abc", ANY, "zzz"), plan), (0, None))
            self.same(reach(GRAPH, ("zzz", ANY, "zzz"), plan), (None, None))
            self.same(reach(GRAPH, ("abc", ("node", ">", 5), "def"), plan), (0, None))
            self.same(reach(GRAPH, ("abc", ("maybe", ANY), "abc"), plan), (0, 0))
        # nothing leads on from abc by this word, nothing leads to def by it
        self.same([reach(GRAPH, ("abc", W, "def"), plan) for plan in PLANS], [(None, 0), (0, None), (None, 0)])

    def test_the_front_goes_on_first(self):
        """Both came alike far, 0: the front goes on, and so comes to the end of what there is."""
        graph = Graph((("aaa", 0), ("bbb", 0), ("ccc", 0)), ((("aaa", "ab", "bbb"), 0), (("bbb", "ab", "ccc"), 3)))
        self.same(reach(graph, ("aaa", ("star", W), "ccc"), "both"), (3, 0))

    def test_plans_are_alike_in_kind_and_sum(self):
        for seed in range(200):
            graph, question = drawn_case(drawn(seed))
            told = [best_by(graph, question, plan) for plan in PLANS]
            self.same(len({answer[0] for answer in told}), 1)
            if told[0][0] == "path":
                self.same(len({path_weight(graph, answer[1]) for answer in told}), 1)

    def test_wrong_plans(self):
        for plan in NO_PLANS:
            self.raises(NoPlan, reach, GRAPH, QUESTION, plan)
