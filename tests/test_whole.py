"""The whole: the examples of the document, and THE GREAT FACT of 0.1."""

import itertools

from wholeways.alikeness import alike_table, parting
from wholeways.automata import automaton, next_places, run
from wholeways.best import best_sum, sums_to
from wholeways.errors import NoRoom, Refused, Stopped, TooLarge
from wholeways.expressions import size, stretches, turned_expression
from wholeways.graph import Graph, graph_of, is_whole
from wholeways.graphdesk import graph_tale
from wholeways.judges import Dealing, is_serial_order, ring, serial_order, ties, worths_behind
from wholeways.kept import Kept
from wholeways.log import Log, formatted
from wholeways.orders import in_store, on_graph
from wholeways.pages import Pages
from wholeways.papers import is_answer
from wholeways.paths import is_path, path_weight, turned
from wholeways.plans import chosen
from wholeways.reading_paths import expression_text, read_expression
from wholeways.recovery import commits_of, meaning
from wholeways.serial import Check
from wholeways.store import Store, new_store
from wholeways.vacuum import harm, needed

from tests.helping import Case, drawn, some_reach
from tests.test_orders import drawn_order


class Examples(Case):
    def test_e01(self):
        one = Dealing(0, 1, (), (), (("a", 5),))
        two = Dealing(0, 2, ("a",), (), (("b", 6),))
        looker = Dealing(1, None, ("a",), (("b", "c", ()),), ())
        self.same((ties((one, two, looker)), ring((one, two, looker)), serial_order((one, two)), worths_behind((one, two), (1, 0))), ([(0, 2), (1, 0), (2, 1)], (0, 2, 1), (1, 0), {"a": 5, "b": 6}))

    def test_e02(self):
        c = Check(0)
        self.same((c.opens(0), c.opens(0), c.opens(0), c.commits(0, (), (), (("a", 5),)), c.commits(1, ("a",), (), (("b", 6),)), c.remembered()), (0, 1, 2, 1, 2, (0, 1)))

    def test_e03(self):
        self.same((needed([(9, None), (7, 4), (3, 5)], (4,), 9), needed([(9, None), (7, 4)], (), 9), harm([(7, 4), (3, 5)], (4,), 7, 3)), ((3, 9), (), 4))

    def test_e06(self):
        d = formatted(24, 8)
        g = Log(d)
        self.same((d.lying(0), g.append(("a", 1)), d.waiting(), g.forced(), g.force(0), d.lying(1), g.forced()), (("master", 1, 8, 0, 0, 0), 0, {1: 1}, -1, None, (0, 1, 0, 0, "a", 1), 0))

    def test_e07(self):
        p = Pages(formatted(24, 8))
        b = p.batch()
        self.same((b.take_page(), b.put(1, ("leaf", 5)), b.done(("note",)), p.held(1), p.dirty(), p.notes()), (1, None, 0, ("leaf", 5), (0, 1), [(0, ("note",))]))

    def test_e08(self):
        s = new_store(64, 24)
        t = s.begin()
        self.same((s.put(t, "a", 5), s.commit(t), s.now(), s.lasting(), meaning(s.disk())), (None, 1, {"a": 5}, 1, {"a": 5}))

    def test_e09_to_e11(self):
        g = Graph((("abc", 1), ("def", 2)), ((("abc", "xy", "def"), 5),))
        q = ("abc", ("word", "xy"), "def")
        self.same((best_sum(g, q), sums_to(g, q), chosen(g, q), is_answer(g, q, ("path", ("abc", ("xy", 1), "def"), 5, {("abc", 0): 0})), is_answer(g, q, ("none", "from", (("abc", 0),)))), (5, {"def": 5}, "both", True, False))
        p = ("abc", ("xy", 1), "def")
        x = ("then", ("word", "xy"), ("node", ">", 1))
        self.same((is_path(g, p), path_weight(g, p), turned(p), stretches(x, g, p), size(x), turned_expression(x)), (True, 5, ("def", ("xy", -1), "abc"), [(0, 1)], 2, ("then", ("node", ">", 1), ("back", "xy"))))
        m = automaton(x)
        self.same((m.atoms, m.moves, m.ends, run(m, g, p), next_places(m, g, ("abc", 0))),
                  ((("word", "xy"),), ((0, (-1000000000000000000, 1000000000000000000), 1),), ((1, (2, 1000000000000000000)),), (0, 1), [(("def", 1), ("xy", 1), 5)]))

    def test_e12(self):
        self.same((read_expression("ab* | ~cd{1,2} [=3]"), expression_text(("star", ("then", ("any",), ("here",))))),
                  (("or", ("star", ("word", "ab")), ("then", ("times", 1, 2, ("back", "cd")), ("node", "=", 3))), "(. _)*"))

    def test_e13(self):
        w = ("word", "ab")
        self.same((alike_table(("maybe", ("plus", w)), ("star", w)), parting(("maybe", ("plus", w)), ("star", w)), alike_table(w, ("star", w))), ((((), ()), ((0,), (0,)), ((1,), (1,))), None, None))

    def test_e14(self):
        self.same(graph_tale(64, 24, ["begin t", "node t aaa 1", "node t bbb 2", "tie t aaa xy bbb 5", "path t aaa bbb xy", "commit t", "cut", "begin u", "sum u bbb aaa ~xy"]), ["ok", "ok", "ok", "ok", "5 aaa xy bbb", "1", "ok", "ok", "5"])


class Life:
    """Transactions of orders over a store whose power may fail at any write; all that was told is kept."""

    def __init__(self, case, blocks, ring):
        self.case, self.store = case, new_store(blocks, ring)
        # pairs (dealing, what was told of its orders) of the commits that stand, in the order in which they were told
        self.commits, self.pending = [], None
        self.begun()
        self.counts = {}

    def begun(self):
        self.kept, self.told = Kept(self.store), {}

    def count(self, name, many=1):
        self.counts[name] = self.counts.get(name, 0) + many

    def step(self, draw):
        way = draw.random()
        if not self.told or (way < 0.12 and len(self.told) < 5):
            self.told[self.store.begin()] = []
            return
        number = draw.choice(sorted(self.told))
        if way < 0.62:
            order = drawn_order(draw)
            self.told[number].append((order, in_store(self.kept, self.store, number, order)))
        elif way < 0.82:
            self.commit(draw, number)
        elif way < 0.84:
            self.store.abort(number)
            del self.told[number]
        else:
            self.keep_house(draw)

    def commit(self, draw, number):
        snapshot, *seen = self.store.seen(number)
        self.pending = Dealing(snapshot, self.store.last() + 1 if seen[-1] else None, *seen), self.told[number]
        try:
            told = (self.kept.commit if draw.random() < 0.3 else self.kept.commit_soon)(number)
        except Refused:
            self.count("refused")
            self.store.abort(number)
        except (TooLarge, NoRoom):
            self.store.abort(number)
        else:
            self.case.same(told, self.pending[0].number)
            self.commits.append(self.pending)
            self.count("commits")
        self.pending = None
        del self.told[number]

    def keep_house(self, draw):
        way = draw.random()
        try:
            if way < 0.4:
                self.count("swept", self.store.sweep(draw.choice((1, 3, 1000))))
            elif way < 0.5:
                self.count("swept", self.store.vacuum())
        except TooLarge:
            pass
        if 0.5 < way < 0.6:
            self.store.checkpoint()
        elif 0.6 < way < 0.7:
            self.store.force()
        elif way > 0.7 and self.store.dirty():
            self.store.write_out(draw.choice(self.store.dirty()))

    def stopped(self, draw, many):
        """So many steps, or until the power fails; whether it did. What surely lasts is told by least."""
        self.least = self.store.lasting()
        for _ in range(many):
            try:
                self.step(draw)
            except Stopped:
                return True
            waiting = list(self.store.disk().waiting())
            if waiting and draw.random() < 0.3:
                try:
                    self.store.disk().reach(draw.choice(waiting))
                except Stopped:
                    return True
            self.least = self.store.lasting()
        return False

    def cut(self, draw):
        disk = self.store.disk()
        some_reach(draw, disk)
        told, last = len([d for d, _ in self.commits if d.number is not None]), commits_of(disk)
        self.case.assertLessEqual(self.least, last)
        if last > told:
            self.commits.append(self.pending)
            self.case.same(self.pending[0].number, last)
        place = lambda dealing: dealing.snapshot if dealing.number is None else dealing.number
        self.count("gone", len([d for d, _ in self.commits if place(d) > last]))
        self.commits, self.pending = [row for row in self.commits if place(row[0]) <= last], None
        self.store = Store(disk)
        self.begun()
        self.count("cuts")

    def held(self):
        """One serial order of what stands, by which each alone on a plain graph is told just what it was told."""
        history = tuple(dealing for dealing, _ in self.commits)
        order = serial_order(history)
        self.case.assertTrue(is_serial_order(history, order))
        graph = Graph((), ())
        for k in order:
            for deed, told in self.commits[k][1]:
                behind, expected = on_graph(graph, deed)
                if deed[0] == "best":
                    self.case.assertTrue(is_answer(graph, deed[1:], told))
                    self.count(told[0])
                else:
                    self.case.same(told, expected)
                graph = behind
        worths = self.store.now()
        self.case.assertTrue(is_whole(worths) and graph_of(worths) == graph)
        self.case.same(worths, dict(sorted(worths_behind(history, order).items())))


class GreatFact(Case):
    def test_lives(self):
        counts = {}
        for seed in range(25):
            draw = drawn(seed)
            life = Life(self, *draw.choice(((200, 60), (120, 30), (64, 24))))
            for _ in range(5):
                life.store.disk().power(draw.choice((None, 1, 3, 10, 30, 60)))
                life.stopped(draw, draw.randrange(20, 90))
                life.cut(draw)
                life.held()
            life.stopped(draw, 60)
            life.held()
            for name, many in life.counts.items():
                counts[name] = counts.get(name, 0) + many
        for name in ("commits", "refused", "swept", "gone", "cuts", "path", "none"):
            self.assertGreater(counts.get(name, 0), 20, name)

    def test_a_cut_at_each_write(self):
        """The same row of calls, cut at its first, second, .. write."""
        for seed in range(2):
            for many in itertools.count():
                draw = drawn(seed)
                life = Life(self, 64, 10)
                life.store.disk().power(many)
                was_stopped = life.stopped(draw, 300)
                other = drawn(1000 + many)
                life.cut(other)
                life.held()
                life.stopped(other, 15)
                life.held()
                if not was_stopped:
                    break
            self.assertGreater(many, 25)
