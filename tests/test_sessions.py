"""Promises 17.2 and 17.3: plays of sessions, and the judge of their accounts."""

from wholeways.errors import BadDisk, NoPlay, NoRoom, Refused, TooLarge
from wholeways.graph import Graph, graph_of
from wholeways.judges import Dealing, serial_order
from wholeways.kept import Kept
from wholeways.kinds import is_lot
from wholeways.orders import in_store
from wholeways.papers import is_answer
from wholeways.sessions import graph_played, is_right_graph_account
from wholeways.store import Store, new_store

from tests.graphs import NAMES, WORDS
from tests.helping import Case, deep, drawn, odd_things
from tests.test_orders import Plain, drawn_order

W = ("word", "ab")
EMPTY = Graph((), ())
PARTS = ("commits", "forced", "cuts", "refused", "ends", "graph")
SIZES = ((200, 60), (120, 40), (64, 24), (40, 10), (24, 6), (20, 4), (17, 8), (16, 6))


def shown(account):
    """An account in plain values alone."""
    found = dict(account)
    found["commits"] = [(session, (d.snapshot, d.number, d.gets, d.ranges, d.writes), told, stands) for session, d, told, stands in account["commits"]]
    found["graph"] = account["graph"].points, account["graph"].links
    return found


class Stage:
    """17.2 and 17.3, word by word."""

    def __init__(self, blocks, ring, play):
        self.sessions, self.schedule, self.tries = play
        self.store = new_store(blocks, ring)
        self.kept = Kept(self.store)
        many = len(self.sessions)
        self.word, self.left, self.number, self.told = ["on"] * many, [self.tries] * many, [None] * many, [[] for _ in range(many)]
        self.commits, self.forced, self.cuts, self.refused = [], [], [], []
        self.counts = {}
        for step in self.schedule:
            getattr(self, step[0])(*step[1:])

    def go(self, k, soon=False):
        if self.word[k] != "on":
            return
        if self.number[k] is None:
            self.number[k], self.told[k] = self.store.begin(), []
        if len(self.told[k]) < len(self.sessions[k]):
            order = self.sessions[k][len(self.told[k])]
            self.told[k].append((order, in_store(self.kept, self.store, self.number[k], order)))
            return
        dealing = self.store.seen(self.number[k])
        try:
            commit = (self.kept.commit_soon if soon else self.kept.commit)(self.number[k])
        except Refused as e:
            self.refused.append((k, e.ring))
            self.gone(k, "refused")
        except (TooLarge, NoRoom):
            self.store.abort(self.number[k])
            self.word[k] = "full"
        else:
            self.word[k] = "over"
            self.commits.append([k, Dealing(dealing[0], commit, *dealing[1:]), tuple(self.told[k]), True])
            if commit is not None and not soon:
                self.forced.append(len(self.commits) - 1)

    def soon(self, k):
        self.go(k, True)

    def gone(self, k, word):
        if word == "refused":
            self.store.abort(self.number[k])
        self.number[k] = None
        if self.left[k]:
            self.left[k] -= 1
            self.counts["anew"] = self.counts.get("anew", 0) + 1
        else:
            self.word[k] = word

    def out(self, number):
        if self.store.dirty():
            self.store.write_out(self.store.dirty()[number % len(self.store.dirty())])

    def reach(self, number):
        disk = self.store.disk()
        if number % disk.blocks() in disk.waiting():
            disk.reach(number % disk.blocks())

    def force(self):
        self.store.force()

    def vacuum(self):
        try:
            self.store.vacuum()
        except (TooLarge, NoRoom):
            pass

    def check(self):
        self.store.checkpoint()

    def cut(self, lot):
        disk = self.store.disk()
        for block in lot:
            while block in disk.waiting():
                disk.reach(block)
        disk.cut()
        self.store = Store(disk)
        self.kept = Kept(self.store)
        for k, number in enumerate(self.number):
            if number is not None and self.word[k] == "on":
                self.gone(k, "lost")
        gone = []
        for k, row in enumerate(self.commits):
            place = row[1].snapshot if row[1].number is None else row[1].number
            if row[3] and place > self.store.last():
                row[3] = False
                gone.append(k)
        self.cuts.append((len(self.commits), self.store.last(), tuple(gone)))

    def account(self):
        return {"commits": [tuple(row) for row in self.commits], "forced": tuple(self.forced), "cuts": self.cuts, "refused": self.refused, "ends": tuple(self.word), "graph": graph_of(self.store.now())}


def plain_right(play, account):
    """17.3, word by word, of what has the form of an account."""
    commits, gone, ahead = account["commits"], set(), 0
    if any(k >= len(commits) for k in account["forced"]):
        return False
    for many, last, lot in account["cuts"]:
        if not ahead <= many <= len(commits):
            return False
        places = [d.snapshot if d.number is None else d.number for _, d, _, _ in commits[:many]]
        if set(lot) != {k for k, place in enumerate(places) if k not in gone and place > last}:
            return False
        gone, ahead = gone | set(lot), many
    if gone & set(account["forced"]) or any(row[3] == (k in gone) for k, row in enumerate(commits)):
        return False
    rows = [row for row in commits if row[3]]
    try:
        order = serial_order(tuple(row[1] for row in rows))
    except ValueError:
        return False
    plain = Plain(EMPTY)
    for k in order or ():
        if tuple(pair[0] for pair in rows[k][2]) != play[0][rows[k][0]]:
            return False
        for deed, told in rows[k][2]:
            expected = plain.told(deed)
            if not (is_answer(plain.graph(), deed[1:], told) if deed[0] == "best" else repr(expected) == repr(told)):
                return False
    return order is not None and plain.graph() == account["graph"]


def drawn_play(draw, many_steps=160, large=0.1):
    sessions = []
    names, words = NAMES[:draw.choice((2, 3, 4))], WORDS[:2]
    for _ in range(draw.choice((1, 2, 3, 4, 6, 6))):
        orders = [drawn_order(draw, names, words) for _ in range(draw.choice((0, 2, 4, 8, 12)))]
        if draw.random() < 0.6:
            orders = [("node", name, draw.randrange(3)) for name in names if draw.random() < 0.5] + orders
        if draw.random() < large:
            orders = [("node", first + second + "a", 0) for first in "abcdef" for second in "abcdef"] + orders[:4]
        sessions.append(tuple(orders))
    schedule = [drawn_step(draw, len(sessions)) for _ in range(draw.randrange(many_steps))]
    if draw.random() < 0.5:
        schedule += [(draw.choice(("go", "soon")), k) for k in range(len(sessions)) for _ in range(len(sessions[k]) + 1)][:400 - len(schedule)]
    return tuple(sessions), tuple(schedule), draw.randrange(4)


def drawn_step(draw, many):
    way = draw.random()
    if way < 0.8:
        return draw.choice(("go", "soon")), draw.randrange(many)
    if way < 0.94:
        return draw.choice((("out", draw.randrange(30)), ("reach", draw.randrange(400)), ("reach", 10 ** 18), ("force",), ("vacuum",), ("check",)))
    return "cut", tuple(sorted(block for block in range(draw.choice((20, 60, 300))) if draw.random() < draw.random()))


class Plays(Case):
    def test_against_a_plain_stage(self):
        """THE FACT OF PLAYS, and played again it is the same."""
        counts = {}
        for seed in range(400):
            draw = drawn(seed)
            blocks, ring = draw.choice(SIZES)
            play = drawn_play(draw, large=0.1 if blocks > 20 else 0.5)
            kept = repr(play)
            account, stage = graph_played(blocks, ring, play), Stage(blocks, ring, play)
            self.same(list(account), list(PARTS))
            self.same(shown(account), shown(stage.account()))
            self.same(is_right_graph_account(play, account), True)
            self.same(plain_right(play, account), True)
            self.same(repr(play), kept)
            if seed % 5 == 0:
                self.same(shown(graph_played(blocks, ring, play)), shown(account))
            told = [*account["ends"], *["refused once"] * len(account["refused"]), *["gone"] * sum(len(lot) for _, _, lot in account["cuts"]), *["forced"] * len(account["forced"])]
            for name in told + ["anew"] * stage.counts.get("anew", 0) + ["best"] * sum(order[0] == "best" for _, _, row, _ in account["commits"] for order, _ in row):
                counts[name] = counts.get(name, 0) + 1
        for name in ("over", "refused", "lost", "full", "on", "refused once", "gone", "forced", "anew", "best"):
            self.assertGreater(counts.get(name, 0), 15, name)

    def test_one_session(self):
        session = (("node", "aaa", 1), ("node", "bbb", 2), ("tie", "aaa", "ab", "bbb", 5), ("best", "aaa", W, "bbb"))
        account = graph_played(64, 24, ((session,), (("go", 0),) * 5, 0))
        (k, dealing, told, stands), = account["commits"]
        self.same((k, stands, dealing.snapshot, dealing.number, dealing.writes), (0, True, 0, 1, (("naaa", 1), ("nbbb", 2), ("rbbbabaaa", 5), ("taaaabbbb", 5))))
        self.same([pair[0] for pair in told], list(session))
        self.same(([pair[1] for pair in told[:3]], told[3][1][1]), (["ok"] * 3, ("aaa", ("ab", 1), "bbb")))
        self.same((account["forced"], account["cuts"], account["refused"], account["ends"]), ((0,), [], [], ("over",)))
        self.assertTrue(account["graph"] == Graph((("aaa", 1), ("bbb", 2)), ((("aaa", "ab", "bbb"), 5),)))
        for many in range(8):
            account = graph_played(64, 24, ((session,), (("soon", 0),) * many, 0))
            self.same((account["ends"], len(account["commits"]), account["forced"]), (("over",) if many > 4 else ("on",), int(many > 4), ()))

    def test_an_empty_session(self):
        """The first step begins and commits."""
        for word in ("go", "soon"):
            account = graph_played(64, 24, (((), ()), ((word, 1), (word, 1)), 0))
            self.same((shown(account)["commits"], account["forced"], account["ends"]), ([(1, (0, None, (), (), ()), (), True)], (), ("on", "over")))

    def test_what_a_cut_takes(self):
        """What was told by soon alone goes, what was forced behind it stays; a looker stands where its snapshot does."""
        sessions = ((("node", "aaa", 1),), (("node", "bbb", 1),), (("see", "bbb"),), (("see", "zzz"),))
        steps = lambda *row: tuple((word, k) for word, k in row for _ in range(2))
        account = graph_played(64, 24, (sessions, steps(("go", 0), ("soon", 1), ("soon", 2)) + (("cut", ()),) + steps(("go", 3)), 0))
        self.same((account["cuts"], [row[3] for row in account["commits"]], account["forced"], account["graph"].points), ([(3, 1, (1, 2))], [True, False, False, True], (0,), (("aaa", 1),)))
        account = graph_played(64, 24, (sessions, steps(("soon", 0), ("soon", 1), ("soon", 2)) + (("force",), ("cut", ())) + steps(("go", 3)), 0))
        self.same((account["cuts"], [row[3] for row in account["commits"]], account["forced"]), ([(3, 2, ())], [True] * 4, ()))
        account = graph_played(64, 24, (sessions, steps(("soon", 0), ("soon", 1)) + (("cut", tuple(range(64))),), 0))
        self.same(account["cuts"], [(2, 2, ())])
        account = graph_played(64, 24, (sessions, steps(("soon", 0), ("soon", 1)) + (("cut", (1, 600, 10 ** 18)), ("cut", ())), 0))
        self.same(account["cuts"], [(2, 1, (1,)), (2, 1, ())])

    def test_tries(self):
        """Two that make the same node, woven: the second one is refused, and tries anew as often as it may."""
        sessions = ((("node", "aaa", 1),), (("node", "aaa", 2),))
        woven = (("go", 0), ("go", 1), ("go", 0), ("go", 1))
        account = graph_played(64, 24, (sessions, woven, 0))
        self.same((account["ends"], account["refused"]), (("over", "refused"), [(1, (1, 0))]))
        account = graph_played(64, 24, (sessions, woven + (("go", 1),) * 2, 1))
        self.same((account["ends"], account["refused"], account["commits"][1][2]), (("over", "over"), [(1, (1, 0))], ((("node", "aaa", 2), ("no", "NodeThere")),)))
        self.same(graph_played(64, 24, (sessions, woven, 1))["ends"], ("over", "on"))
        lost = (("go", 0), ("cut", ()))
        for tries in range(6):
            for many in range(8):
                self.same(graph_played(64, 24, (sessions, lost * many, tries))["ends"], ("lost" if many > tries else "on", "on"))
        # who has no transaction under way loses none
        self.same(graph_played(64, 24, (sessions, (("cut", ()),) * 9, 0))["ends"], ("on", "on"))
        self.same(graph_played(64, 24, (sessions, woven + (("cut", ()),) * 9, 1))["ends"], ("over", "on"))

    def test_full(self):
        many = tuple(("node", first + second + "a", 0) for first in "abcde" for second in "abcdefgh")
        account = graph_played(17, 8, ((many,), (("go", 0),) * 45, 3))
        self.same((account["ends"], account["commits"], account["graph"].points), (("full",), [], ()))
        account = graph_played(17, 8, ((many, (("see", "aaa"),)), (("go", 0),) * 45 + (("go", 1),) * 2, 3))
        self.same((account["ends"], account["commits"][0][2]), (("full", "over"), ((("see", "aaa"), None),)))

    def test_vacuum_makes_room(self):
        """Three commits of all worths are too many for so few pages, but two are not, once the first one's versions are gone."""
        names = [sign + "aa" for sign in "abcdefghijklmn"]
        sessions = (tuple(("node", name, 0) for name in names), *[tuple(("worth", name, k) for name in names) for k in (1, 2)])
        rows = [(("go", k),) * 15 for k in range(3)]
        for between, end in ((("check",), "full"), (("vacuum",), "over")):
            account = graph_played(16, 7, (sessions, rows[0] + rows[1] + (between,) + rows[2], 0))
            self.same(account["ends"], ("over", "over", end))

    def test_force_lets_all_last(self):
        sessions = ((("node", "aaa", 1),), (("node", "bbb", 1),))
        for step, gone in ((("force",), ()), (("check",), ()), (("vacuum",), (0, 1)), (("out", 0), (1,)), (("reach", 1), (1,)), (("reach", 2), (0, 1)), (("reach", 65), (1,)), (("cut", (1,)), (1,)), (("cut", (2,)), (0, 1)), (("cut", (1, 2)), ())):
            schedule = (("soon", 0),) * 2 + ((step,) if step[0] == "out" else ()) + (("soon", 1),) * 2 + (() if step[0] == "out" else (step,)) + (("cut", ()),)
            account = graph_played(64, 24, (sessions, schedule, 0))
            self.same(tuple(k for _, _, lot in account["cuts"] for k in lot), gone)

    def test_lists_are_new(self):
        play = ((((("node", "aaa", 1),)), (("best", "aaa", ("here",), "aaa"),)), (("go", 0),) * 2 + (("go", 1),) * 2, 0)
        account = graph_played(64, 24, play)
        kept = repr(shown(account))
        account["commits"][1][2][0][1][3].clear()
        for part in ("commits", "cuts", "refused"):
            account[part].append(5)
        self.same(repr(shown(graph_played(64, 24, play))), kept)


PLAY = (((("node", "aaa", 1),), (("see", "aaa"),)), (("go", 0), ("go", 1), ("force",)), 1)


class WrongPlays(Case):
    def part(self, play, part):
        self.same(self.raises(NoPlay, graph_played, 64, 24, play).part, part)
        self.same(self.raises(NoPlay, is_right_graph_account, play, {}).part, part)

    def test_sessions(self):
        session = PLAY[0][0]
        for play in odd_things() + [PLAY[:2], PLAY + (0,), list(PLAY), (), deep(40), {0: PLAY}]:
            self.part(play, "sessions")
        for sessions in [thing for thing in odd_things() if repr(thing) != "((),)"] + [(), (session,) * 7, [session], (list(session),), (session, None), ((session,),), (session + (None,),), (session + (("see",),),), (session * 41,), (("see", "aaa"),), ((("see", "aaaa"),),), deep(38)]:
            self.part((sessions,) + PLAY[1:], "sessions")
            self.part((sessions, None, None), "sessions")
        for sessions in [(session,) * 6, (session * 40,), ((),)]:
            graph_played(64, 24, (sessions, (), 0))

    def test_schedules(self):
        for schedule in [thing for thing in odd_things() if not isinstance(thing, tuple)] + [list(PLAY[1]), (("force",),) * 401, None, "go", tuple([0] * 20000)]:
            self.part((PLAY[0], schedule, PLAY[2]), "schedule")
            self.part((PLAY[0], schedule, None), "schedule")
        graph_played(64, 24, (PLAY[0], (("force",),) * 400, 0))

    def test_tries(self):
        for tries in odd_things() + [-1, 6, 10 ** 59, "1", (1,), [1], True]:
            self.part(PLAY[:2] + (tries,), "tries")
            self.part((PLAY[0], (None,), tries), "tries")
        for tries in range(6):
            graph_played(64, 24, PLAY[:2] + (tries,))

    def test_steps(self):
        wrong = odd_things() + [("go",), ("go", 2), ("go", -1), ("go", True), ("go", "0"), ("go", None), ("go", 0, 0), ["go", 0], ("soon",), ("soon", 2), ("soon", (0,)), ("out",), ("out", -1), ("out", 10 ** 18 + 1), ("out", False), ("out", "1"),
                                ("reach",), ("reach", -1), ("reach", 10 ** 18 + 1), ("reach", None), ("force", 0), ("force", None), ("vacuum", 8), ("check", 0), ("cut",), ("cut", 0), ("cut", [1]), ("cut", (1, 1)), ("cut", (2, 1)), ("cut", (-1,)),
                                ("cut", (True,)), ("cut", (10 ** 18 + 1,)), ("cut", ("1",)), ("cut", None), ("cut", (), ()), ("cutt", ()), ("force", ()), ("", ()), ("Go", 0), ("gone", 0), ("",), ("commit", 0), ("abort", 0), (0, "go"), (("go", 0),), ((), 0), (None,), "force", ("begin",), deep(38)]
        for step in wrong:
            with self.subTest(step=repr(step)[:60]):
                self.part((PLAY[0], (step,), 0), 0)
                self.part((PLAY[0], PLAY[1] + (step, None), 0), 3)
        for step in [("out", 0), ("out", 10 ** 18), ("reach", 0), ("reach", 10 ** 18), ("cut", ()), ("cut", (0, 5, 10 ** 18)), ("check",), ("vacuum",)]:
            graph_played(64, 24, (PLAY[0], PLAY[1] + (step,), 0))

    def test_new_store_comes_first(self):
        for sizes in [(15, 4), (601, 24), (64, 3), (64, 57), (None, 24), (64, "24"), (True, 24)]:
            for play in (PLAY, None, (PLAY[0], None, 0)):
                self.raises(BadDisk, graph_played, *sizes, play)


def with_one_part_otherwise(draw, play, account):
    """An account of the right form, with one part otherwise."""
    other = {part: list(account[part]) if isinstance(account[part], list) else account[part] for part in PARTS}
    way, commits = draw.randrange(9), other["commits"]
    if way < 5 and commits:
        k = draw.randrange(len(commits))
        session, d, told, stands = commits[k]
        if way == 0:
            commits[k] = session, d, told, not stands
        elif way == 1 and told:
            j = draw.randrange(len(told))
            tale = draw.choice(("ok", None, 0, 1, (), ("no", "NodeThere"), ("no", "NotANode"), ("none", "from", ()), ("path", ("aaa",), 0, {})))
            commits[k] = session, d, told[:j] + ((told[j][0], tale),) + told[j + 1:], stands
        elif way == 2:
            number = draw.choice((d.number, None, 1, 2, 3))
            writes = () if number is None else d.writes or (("a", 1),)
            if number is None or number > d.snapshot:
                commits[k] = session, Dealing(d.snapshot, number, d.gets, d.ranges, writes), told, stands
        elif way == 3:
            del commits[k]
        else:
            j = draw.randrange(len(commits))
            commits[k], commits[j] = commits[j], commits[k]
    elif way == 5:
        other["forced"] = tuple(k for k in range(len(commits)) if draw.random() < 0.5)
    elif way == 6 and other["cuts"]:
        k = draw.randrange(len(other["cuts"]))
        many, last, lot = other["cuts"][k]
        other["cuts"][k] = draw.choice(((many + 1, last, lot), (max(many - 1, 0), last, lot), (many, last + 1, lot), (many, max(last - 1, 0), lot), (many, last, lot[1:]), (many, last, tuple(sorted({*lot, 0})))))
    elif way == 7:
        graph = account["graph"]
        other["graph"] = draw.choice((EMPTY, Graph(graph.points[:-1], ()), Graph(graph.points, graph.links[1:]), Graph(graph.points + (("zzz", 9),), graph.links) if "zzz" not in dict(graph.points) else EMPTY))
    else:
        other[draw.choice(("refused", "ends"))] = draw.choice(([], None, 5, ("on",), [(0, (1, 0))]))
    return other


class Judge(Case):
    def account(self):
        sessions = ((("node", "aaa", 1), ("node", "bbb", 2), ("tie", "aaa", "ab", "bbb", 5)), (("see", "aaa"), ("from", "aaa"), ("best", "aaa", W, "bbb")), (("worth", "aaa", 7),), (("node", "ccc", 0),))
        schedule = tuple((word, k) for word, k, many in (("go", 0, 4), ("go", 1, 4), ("soon", 2, 2)) for _ in range(many)) + (("cut", ()), ("go", 3), ("go", 3))
        play = (sessions, schedule, 0)
        return play, graph_played(64, 24, play)

    def test_with_one_part_otherwise(self):
        told = {True: 0, False: 0}
        for seed in range(400):
            draw = drawn(seed)
            play = drawn_play(draw, 90)
            account = graph_played(*draw.choice(SIZES[:4]), play)
            for _ in range(4):
                other = with_one_part_otherwise(draw, play, account)
                kept, right = repr(shown(other)), plain_right(play, other)
                self.assertIs(is_right_graph_account(play, other), right, (play, kept))
                self.same(repr(shown(other)), kept)
                told[right] += 1
        self.assertGreater(min(told.values()), 300)

    def test_this_one(self):
        play, account = self.account()
        self.same((is_right_graph_account(play, account), account["cuts"], [row[3] for row in account["commits"]]), (True, [(3, 1, (2,))], [True, True, False, True]))
        self.same(is_right_graph_account(play, {**account, "refused": None, "ends": 5, "more": deep(39), 5: ()}), True)

    def wrong(self, play, account):
        self.same(is_right_graph_account(play, account), False)

    def test_keys(self):
        play, account = self.account()
        for part in PARTS:
            self.wrong(play, {key: value for key, value in account.items() if key != part})
            self.wrong(play, {part: account[part]})
        for thing in odd_things() + [list(account.items()), tuple(account), [account], (account,), deep(40), {}]:
            self.wrong(play, thing)

    def test_forms(self):
        play, account = self.account()
        first = account["commits"][0]
        for commits in [tuple(account["commits"]), account["commits"] + [None], account["commits"][:3], [list(first)] + account["commits"][1:], [first[:3]] + account["commits"][1:], [first + (None,)] + account["commits"][1:], None, {0: first}] + odd_things():
            self.wrong(play, {**account, "commits": commits})
        for k, things in enumerate([[4, -1, True, None, "0", (0,), 10 ** 59] + odd_things()[2:], [None, (0, 1, (), (), ()), account["commits"][1][1]] + [thing for thing in odd_things() if not isinstance(thing, Dealing)],
                                    [None, list(first[2]), first[2][:2], first[2] + (first[2][0],), first[2][::-1], (None,) * 3, tuple(pair[::-1] for pair in first[2]), tuple(pair + (0,) for pair in first[2]), tuple(list(pair) for pair in first[2])] + odd_things(),
                                    [1, 0, None, "True", False] + odd_things()[1:]]):
            for thing in things:
                self.wrong(play, {**account, "commits": [first[:k] + (thing,) + first[k + 1:]] + account["commits"][1:]})
        for cuts in [tuple(account["cuts"]), [None], [(3, 1)], [(3, 1, (2,), 0)], [[3, 1, (2,)]], [(True, 1, (2,))], [(3, True, (2,))], [(3, 1, [2])], [(3, 1, (True,))], [(3, 1, (2, 2))], [(-1, 1, ())], [(3, -1, (0, 1, 2))], [], [(3, 1, (2,))] * 2,
                     [(5, 1, (2,))], [(3, 1, (2,)), (2, 1, ())], [(3, "1", (2,))], [(3, None, (2,))], [("3", 1, (2,))], account["cuts"] + [None]] + odd_things()[:11] + odd_things()[12:]:
            self.wrong(play, {**account, "cuts": cuts})
        for forced in [[0], (4,), (0, 0), (True,), (2,), (0, 2), None, 0, (-1,), ("0",), (10 ** 59,)] + [thing for thing in odd_things() if not is_lot(thing)]:
            self.wrong(play, {**account, "forced": forced})
        for forced in [(), (0,), (0, 1, 3), (3,)]:
            self.same(is_right_graph_account(play, {**account, "forced": forced}), True)
        self.same(is_right_graph_account(play, {**account, "cuts": account["cuts"] + [(3, 2, ()), (4, 9, ())]}), True)
        for graph in [EMPTY, None, (account["graph"].points, account["graph"].links), Graph(account["graph"].points, ())] + odd_things():
            self.wrong(play, {**account, "graph": graph})

    def test_numbers_of_other_kinds(self):
        """A session told from behind, a flag in the lot of a cut: equal to what stands there, and yet another thing."""
        play, account = self.account()
        session, dealing, told, stands = account["commits"][3]
        self.same(session, 3)
        self.wrong(play, {**account, "commits": account["commits"][:3] + [(-1, dealing, told, stands)]})
        # a flag within an order, and within what was told
        session, dealing, told, stands = account["commits"][0]
        self.same(told[0][0], ("node", "aaa", 1))
        self.wrong(play, {**account, "commits": [(session, dealing, ((("node", "aaa", True), "ok"),) + told[1:], stands)] + account["commits"][1:]})
        one = (((("node", "aaa", 1), ("tie", "aaa", "ab", "aaa", 1), ("from", "aaa")),), (("go", 0),) * 4, 0)
        account = graph_played(64, 24, one)
        session, dealing, told, stands = account["commits"][0]
        self.same((told[2][1], is_right_graph_account(one, account)), ((("ab", "aaa", 1),), True))
        self.wrong(one, {**account, "commits": [(session, dealing, told[:2] + ((told[2][0], (("ab", "aaa", True),)),), stands)]})
        play = ((((("node", "aaa", 1),)), (("node", "bbb", 1),)), (("go", 0), ("go", 0), ("soon", 1), ("soon", 1), ("cut", ())), 0)
        account = graph_played(64, 24, play)
        self.same((account["cuts"], is_right_graph_account(play, account)), ([(2, 1, (1,))], True))
        for row in ((2, 1, (True,)), (2, True, (1,)), (2, 1, [1])):
            self.wrong(play, {**account, "cuts": [row]})

    def test_a_ring(self):
        """Two that have seen what the other one wrote: no serial order holds both."""
        play = (((("see", "aaa"),), (("see", "aaa"),)), (), 0)
        rows = [(k, Dealing(0, k + 1, ("a", "b"), (), (("ab"[k], 1),)), ((("see", "aaa"), None),), True) for k in (0, 1)]
        account = {"commits": rows, "forced": (), "cuts": [], "refused": [], "ends": (), "graph": EMPTY}
        self.wrong(play, account)
        self.same(is_right_graph_account(play, {**account, "commits": rows[:1]}), True)

    def test_no_history(self):
        play = (((("see", "aaa"),), (("see", "aaa"),)), (), 0)
        for snapshot, number in ((0, 2), (1, None), (1, 2), (5, 6)):
            row = (0, Dealing(snapshot, number, (), (), (("a", 1),) if number else ()), ((("see", "aaa"), None),), True)
            self.wrong(play, {"commits": [row], "forced": (), "cuts": [], "refused": [], "ends": (), "graph": EMPTY})

    def test_what_is_told(self):
        """Kind by kind: a flag is no worth, a list no tuple; of best each right answer goes."""
        play, account = self.account()
        session, dealing, told, stands = account["commits"][1]
        for k, things in enumerate([[True, 0, 2, None, "1", (1,)], [[("ab", "bbb", 5)], (["ab", "bbb", 5],), (("ab", "bbb", 6),), (("ab", "bbb", True),), (), None, (("ab", "bbb", 5),) * 2, (("ab", "bbb"),)],
                                    [None, 5, ("none", "from", ()), told[2][1][:3], ("path", ("aaa", ("ab", 1), "bbb"), 4, {}), list(told[2][1])]]):
            for thing in things + odd_things():
                if repr(thing) != repr(told[k][1]):
                    self.wrong(play, {**account, "commits": [account["commits"][0], (session, dealing, told[:k] + ((told[k][0], thing),) + told[k + 1:], stands)] + account["commits"][2:]})
        other = ("path", ("aaa", ("ab", 1), "bbb"), 3, {("aaa", 0): 0, ("bbb", 1): 5})
        self.same(is_right_graph_account(play, {**account, "commits": [account["commits"][0], (session, dealing, told[:2] + ((told[2][0], other),), stands)] + account["commits"][2:]}), True)

    def test_what_is_told_of_one_that_is_gone(self):
        """Its orders are looked at, what it was told is not."""
        play, account = self.account()
        session, dealing, told, stands = account["commits"][2]
        for thing in (("no", "NotANode"), None, deep(38)):
            self.same(is_right_graph_account(play, {**account, "commits": account["commits"][:2] + [(session, dealing, ((told[0][0], thing),), stands)] + account["commits"][3:]}), True)
        for row in [(), ((told[0][0],),), ((("worth", "aaa", 8), "ok"),), told * 2]:
            self.wrong(play, {**account, "commits": account["commits"][:2] + [(session, dealing, row, stands)] + account["commits"][3:]})

    def test_orders_of_another_play(self):
        play, account = self.account()
        for sessions in [play[0][:1] + ((("see", "aaa"), ("from", "aaa"), ("best", "aaa", W, "aaa")),) + play[0][2:], play[0][::-1], play[0][:3], ((("node", "aaa", 2),) + play[0][0][1:],) + play[0][1:]]:
            self.wrong((sessions,) + ((),) + play[2:], account)
        self.same(is_right_graph_account((play[0], (), 5), account), True)
