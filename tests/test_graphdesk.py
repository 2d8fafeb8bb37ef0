"""Promise 17.4: a desk of lines."""

from wholeways.best import sums_to
from wholeways.errors import (BadDisk, InUse, NoBlock, NodeThere, NodeTied, NoLine, NoLines, NoName, NoNumber, NoPage, NoRoom, NotANode, NotATie, NothingWaits,
                              NoWeight, Refused, StoreError, TieThere, TooLarge)
from wholeways.graph import Graph, graph_of
from wholeways.graphdesk import GraphDesk, graph_tale
from wholeways.kept import Kept
from wholeways.paths import path_weight
from wholeways.plans import chosen, weighed
from wholeways.reading_paths import expression_text, read_expression
from wholeways.shape import add_node, add_tie, drop_node, drop_tie, graph_seen, node_worth, set_node, set_tie, ties_from, ties_to
from wholeways.store import Store, new_store

from tests.graphs import NAMES, WORDS
from tests.helping import Case, drawn, odd_things
from tests.searches import drawn_question

E14 = ["begin t", "node t aaa 1", "node t bbb 2", "tie t aaa xy bbb 5", "path t aaa bbb xy", "commit t", "cut", "begin u", "sum u bbb aaa ~xy"]
SMALL = ["begin t", "node t aaa 1", "node t bbb -2", "node t ccc 0", "tie t aaa xy bbb 5", "tie t aaa ab ccc 7", "tie t bbb xy aaa 1"]


def told(call, *things):
    try:
        return call(*things)
    except StoreError as e:
        return f"({e.__class__.__name__})"


class Plain:
    """17.4, word by word, over a store and kept answers of its own."""

    def __init__(self, blocks, ring):
        self.store = new_store(blocks, ring)
        self.kept = Kept(self.store)
        self.numbers = {}

    def tell(self, line):
        word, *things = line.split(" ")
        if word == "begin":
            if things[0] in self.numbers:
                raise InUse()
            self.numbers[things[0]] = self.store.begin()
            return "ok"
        if word in ("sum", "path", "plan", "sums"):
            many = 2 if word == "sums" else 3
            things = [*things[:many], read_expression(" ".join(things[many:]))]
        things = [int(thing) if isinstance(thing, str) and thing.strip("-").isdigit() else thing for thing in things]
        if not hasattr(self, "of_" + word):
            return getattr(self, "do_" + word)(*things)
        if things[0] not in self.numbers:
            raise NoName(things[0])
        number = self.numbers[things[0]]
        found = getattr(self, "of_" + word)(number, *things[1:])
        if word in ("abort", "commit", "soon"):
            del self.numbers[things[0]]
        return "ok" if found is None else found

    def row(self, texts):
        return " ".join(texts) or "none"

    def text(self, number):
        return "none" if number is None else str(number)

    def of_abort(self, number):
        self.store.abort(number)

    def of_commit(self, number):
        return self.text(self.kept.commit(number))

    def of_soon(self, number):
        return self.text(self.kept.commit_soon(number))

    def of_snapshot(self, number):
        return str(self.store.stands_at(number))

    def of_node(self, number, *things):
        add_node(self.store, number, *things)

    def of_worth(self, number, *things):
        set_node(self.store, number, *things)

    def of_unnode(self, number, *things):
        drop_node(self.store, number, *things)

    def of_tie(self, number, *things):
        add_tie(self.store, number, *things)

    def of_weight(self, number, *things):
        set_tie(self.store, number, *things)

    def of_untie(self, number, *things):
        drop_tie(self.store, number, *things)

    def of_see(self, number, name):
        return self.text(node_worth(self.store, number, name))

    def of_from(self, number, name):
        return self.row([f"{word}:{other}:{weight}" for word, other, weight in ties_from(self.store, number, name, None)])

    def of_to(self, number, name):
        return self.row([f"{word}:{other}:{weight}" for word, other, weight in ties_to(self.store, number, name, None)])

    def of_sum(self, number, first, second, expression):
        return self.of_path(number, first, second, expression).split(" ")[0]

    def of_path(self, number, first, second, expression):
        answer = self.kept.ask(number, (first, expression, second))
        if answer[0] == "none":
            return "none"
        steps = [part if isinstance(part, str) else {1: "", -1: "~"}[part[1]] + part[0] for part in answer[1]]
        return self.row([str(path_weight(self.seen_apart(number), answer[1])), *steps])

    def seen_apart(self, number):
        """The graph that a transaction sees, without its having asked for it."""
        snapshot, _, _, wrote = self.store.seen(number)
        worths = {}
        for key, commit, mark in self.store.versions():
            if commit <= snapshot and key not in worths:
                worths[key] = mark
        worths.update(wrote)
        return graph_of({key: worth for key, worth in worths.items() if worth is not None})

    def of_sums(self, number, name, expression):
        return self.row([f"{other}={total}" for other, total in sorted(sums_to(graph_seen(self.store, number), (name, expression, name)).items())])

    def of_plan(self, number, first, second, expression):
        graph = graph_seen(self.store, number)
        return self.row([chosen(graph, (first, expression, second)), *map(str, weighed(graph, (first, expression, second)))])

    def of_graph(self, number):
        graph = graph_seen(self.store, number)
        return self.row([f"{name}={worth}" for name, worth in graph.points] + [f"{first}:{word}:{second}={weight}" for (first, word, second), weight in graph.links])

    def do_kept(self):
        return f"{self.kept.worked()} {self.kept.told_again()}"

    def do_forget(self):
        self.kept.forget()
        return "ok"

    def do_debt(self):
        return str(self.store.debt())

    def do_sweep(self, most):
        return str(self.store.sweep(most))

    def do_vacuum(self):
        return str(self.store.vacuum())

    def do_force(self):
        self.store.force()
        return "ok"

    def do_check(self):
        self.store.checkpoint()
        return "ok"

    def do_dirty(self):
        return self.row([str(page) for page in self.store.dirty()])

    def do_out(self, page):
        return "yes" if self.store.write_out(page) else "no"

    def do_reach(self, block):
        self.store.disk().reach(block)
        return "ok"

    def do_last(self):
        return str(self.store.last())

    def do_lasting(self):
        return str(self.store.lasting())

    def do_cut(self):
        self.store.disk().cut()
        self.store = Store(self.store.disk())
        self.kept, self.numbers = Kept(self.store), {}
        return "ok"


def drawn_line(draw):
    t, first, second, word = draw.choice(("t", "u", "abcdefgh")), draw.choice(NAMES[:3]), draw.choice(NAMES[:3]), draw.choice(WORDS[:2])
    expression = expression_text(drawn_question(draw, 3, WORDS[:2])[1])
    kind = draw.choice(("begin",) * 12 + ("node",) * 16 + ("tie",) * 16 + ("worth", "unnode", "weight", "untie", "untie", "weight") * 4 + ("see", "from", "to", "graph", "commit", "commit", "soon", "soon", "abort", "snapshot") * 2 + ("sum", "path") * 4
                       + ("sums", "plan", "kept", "forget", "debt", "sweep", "vacuum", "force", "check", "dirty", "out", "reach", "last", "lasting", "reach", "reach", "cut"))
    if kind in ("begin", "commit", "soon", "abort", "snapshot", "graph"):
        return f"{kind} {t}"
    if kind in ("node", "worth"):
        return f"{kind} {t} {first} {draw.choice((0, 1, -1, 10 ** 18, -10 ** 18))}"
    if kind in ("unnode", "see", "from", "to"):
        return f"{kind} {t} {first}"
    if kind in ("tie", "weight"):
        return f"{kind} {t} {first} {word} {second} {draw.choice((0, 1, 5, 10 ** 9, 10 ** 9 + 1))}"
    if kind == "untie":
        return f"{kind} {t} {first} {word} {second}"
    if kind == "sums":
        return f"{kind} {t} {first} {expression}"
    if kind in ("sum", "path", "plan"):
        return f"{kind} {t} {first} {second} {expression}"
    return f"{kind} {draw.choice((0, 1, 2, 5, draw.randrange(70), 1001))}" if kind in ("sweep", "out", "reach") else kind


class Lines(Case):
    def test_e14(self):
        self.same(graph_tale(64, 24, E14), ["ok", "ok", "ok", "ok", "5 aaa xy bbb", "1", "ok", "ok", "5"])

    def test_against_a_plain_desk(self):
        counts = {}
        for seed in range(80):
            draw = drawn(seed)
            blocks, ring = draw.choice(((200, 60), (64, 24), (40, 8)))
            desk, plain, lines = GraphDesk(blocks, ring), Plain(blocks, ring), []
            for _ in range(200):
                lines.append(drawn_line(draw))
                expected = told(plain.tell, lines[-1])
                self.same(told(desk.tell, lines[-1]), expected)
                self.same({name: desk._store.seen(number) for name, number in desk._numbers.items()}, {name: plain.store.seen(number) for name, number in plain.numbers.items()})
                word = lines[-1].split(" ")[0]
                counts[word] = counts.get(word, 0) + (expected[0] != "(")
                counts[expected] = counts.get(expected, 0) + 1
            self.same(graph_tale(blocks, ring, lines), [told(again, line) for again in [Plain(blocks, ring).tell] for line in lines])
            self.same(graph_tale(blocks, ring, tuple(lines)), graph_tale(blocks, ring, lines))
        for word in ("begin", "commit", "soon", "abort", "node", "worth", "unnode", "tie", "weight", "untie", "see", "from", "to", "sum", "path", "sums", "plan", "graph", "kept", "forget", "debt", "sweep", "vacuum", "force",
                     "check", "dirty", "out", "reach", "last", "lasting", "cut", "snapshot", "(InUse)", "(NoName)", "(NodeThere)", "(NodeTied)", "(NotANode)", "(NotATie)", "(TieThere)", "(Refused)", "(NoNumber)", "(NoPage)",
                     "(NothingWaits)", "(NoBlock)", "(NoWeight)"):
            self.assertGreater(counts.get(word, 0), 4, word)

    def tale(self, lines, *expected):
        self.same(graph_tale(64, 24, SMALL + lines)[len(SMALL):], list(expected))

    def test_what_each_line_tells(self):
        self.same(graph_tale(64, 24, SMALL), ["ok"] * 7)
        self.tale(["see t aaa", "see t bbb", "see t zzz", "worth t aaa -5", "see t aaa", "snapshot t"], "1", "-2", "none", "ok", "-5", "0")
        self.tale(["from t aaa", "from t ccc", "to t aaa", "to t zzz"], "ab:ccc:7 xy:bbb:5", "none", "xy:bbb:1", "none")
        self.tale(["sum t aaa bbb xy", "sum t aaa bbb ~xy", "sum t aaa ccc xy", "sum t aaa aaa _"], "5", "1", "none", "0")
        self.tale(["path t aaa bbb xy", "path t aaa bbb ~xy", "path t aaa ccc xy", "path t aaa aaa _", "path t bbb ccc ~xy ab"], "5 aaa xy bbb", "1 aaa ~xy bbb", "none", "0 aaa", "12 bbb ~xy aaa ab ccc")
        self.tale(["sums t aaa .", "sums t aaa [>5]", "sums t aaa .*", "sums t zzz _"], "bbb=1 ccc=7", "none", "aaa=0 bbb=1 ccc=7", "none")
        self.tale(["plan t aaa ccc ab", "plan t aaa bbb xy|~xy", "plan t zzz ccc ab", "plan t aaa zzz ab", "plan t aaa ccc .*"], "both 1 1", "both 2 2", "forward 0 1", "backward 1 0", "both 3 2")
        self.tale(["graph t", "unnode t bbb", "untie t aaa ab ccc", "weight t aaa xy bbb 0", "graph t"], "aaa=1 bbb=-2 ccc=0 aaa:ab:ccc=7 aaa:xy:bbb=5 bbb:xy:aaa=1", "(NodeTied)", "ok", "ok", "aaa=1 bbb=-2 ccc=0 aaa:xy:bbb=0 bbb:xy:aaa=1")
        self.tale(["commit t", "snapshot t", "begin t", "snapshot t", "commit t", "begin t", "graph t", "abort t", "last"], "1", "(NoName)", "ok", "1", "none", "ok", "aaa=1 bbb=-2 ccc=0 aaa:ab:ccc=7 aaa:xy:bbb=5 bbb:xy:aaa=1", "ok", "1")
        self.same(graph_tale(64, 24, ["begin t", "graph t", "dirty", "debt", "last", "lasting", "kept", "vacuum", "sweep 1", "sweep 0", "sweep 1001"]), ["ok", "none", "none", "0", "0", "0", "0 0", "0", "0", "(NoNumber)", "(NoNumber)"])
        self.tale(["soon t", "last", "lasting", "force", "lasting", "dirty", "out 1", "out 1", "dirty", "check", "dirty", "out 0", "out 60"], "1", "1", "0", "ok", "1", "0 1 2 3", "yes", "no", "0 2 3", "ok", "none", "no", "(NoPage)")
        self.tale(["soon t", "reach 1", "reach 1", "reach 0", "reach 64", "reach 1000000000000000000"], "1", "ok", "(NothingWaits)", "(NothingWaits)", "(NoBlock)", "(NoBlock)")
        self.tale(["soon t", "begin u", "worth u aaa 5", "soon u", "begin v", "worth v aaa 6", "commit v", "debt", "sweep 1", "vacuum", "debt"], "1", "ok", "ok", "2", "ok", "ok", "3", "2", "1", "1", "0")

    def test_kept_answers(self):
        self.tale(["commit t", "begin t", "sum t aaa bbb xy", "kept", "path t aaa bbb xy", "kept", "begin u", "path u aaa bbb xy", "kept", "forget", "sum u aaa bbb xy", "kept", "cut", "kept"],
                  "1", "ok", "5", "1 0", "5 aaa xy bbb", "1 1", "ok", "5 aaa xy bbb", "1 2", "ok", "5", "2 2", "ok", "0 0")

    def test_sums_of_all_plans(self):
        """The sum is told right, whichever side the answer was found from."""
        lines = ["begin t"] + [f"node t {name} 0" for name in ("aaa", "bbb", "ccc", "ddd", "eee", "fff")] + ["tie t aaa ab bbb 3", "tie t bbb ab ccc 4", "tie t ccc ab ddd 5", "tie t eee ab ddd 1", "tie t fff ab ddd 1", "tie t aaa ab eee 90", "tie t aaa ab fff 90", "tie t ddd ab fff 9"]
        for expression, first, second, expected in (("ab*", "aaa", "ddd", "12"), ("~ab*", "ddd", "aaa", "12"), ("ab+", "bbb", "fff", "18"), ("ab ab ab", "aaa", "ddd", "12"), (".*", "ccc", "ccc", "0"), ("ab*", "ddd", "aaa", "none")):
            self.same(graph_tale(200, 80, lines + [f"sum t {first} {second} {expression}", f"path t {first} {second} {expression}"])[-2:][0], expected)

    def test_names_under_way(self):
        desk = GraphDesk(64, 24)
        for t in ("a", "abcdefgh", "t"):
            self.same(desk.tell("begin " + t), "ok")
            self.raises(InUse, desk.tell, "begin " + t)
        for line in ("commit u", "soon u", "abort u", "snapshot u", "node u aaa 1", "worth u aaa 1", "unnode u aaa", "tie u aaa ab aaa 1", "tie u aaa ab aaa 10000000000", "weight u aaa ab aaa 1", "untie u aaa ab aaa", "see u aaa", "from u aaa",
                     "to u aaa", "sum u aaa aaa ab", "path u aaa aaa ab", "sums u aaa ab", "plan u aaa aaa ab", "graph u"):
            self.same(self.raises(NoName, desk.tell, line).name, "u")
        for word in ("commit", "soon", "abort"):
            self.same(desk.tell("begin u"), "ok")
            desk.tell(word + " u")
            self.raises(NoName, desk.tell, word + " u")
        self.same((desk.tell("cut"), desk.tell("begin a")), ("ok", "ok"))
        self.raises(NoName, desk.tell, "see t aaa")

    def test_under_way_behind_an_error(self):
        desk = GraphDesk(64, 24)
        for line in ("begin t", "begin u", "node t aaa 1", "node u aaa 2", "commit t"):
            desk.tell(line)
        for word in ("commit", "soon"):
            self.same(self.raises(Refused, desk.tell, word + " u").ring, (1, 0))
        self.same((desk.tell("see u aaa"), desk.tell("abort u")), ("2", "ok"))
        desk = GraphDesk(17, 8)
        for line in ["begin t"] + [f"node t {first}{second}a 1" for first in "abcdefgh" for second in "abcdefgh"]:
            desk.tell(line)
        for word in ("commit", "soon"):
            self.assertIn(told(desk.tell, word + " t"), ("(NoRoom)", "(TooLarge)"))
        self.same((desk.tell("see t aaa"), desk.tell("last"), desk.tell("abort t")), ("1", "0", "ok"))

    def test_what_counts_as_seen(self):
        """Behind sums, plan and graph all of the graph; behind sum and path what the answer asked for alone."""
        for line, refused in [("sums u aaa xy", True), ("plan u aaa bbb xy", True), ("graph u", True), ("sum u aaa bbb xy", False), ("path u aaa bbb xy", False), ("see u aaa", False), ("from u bbb", False)]:
            lines = SMALL + ["commit t", "begin u", line, "worth u bbb 7", "begin v", "see v bbb", "worth v ccc 8", "commit v", "commit u"]
            self.same(graph_tale(64, 24, lines)[-1], "(Refused)" if refused else "3")
        # a node that is new is seen to be not there
        for line, refused in [("sums u aaa xy", True), ("plan u aaa bbb xy", True), ("graph u", True), ("sum u aaa bbb xy", False)]:
            lines = SMALL + ["commit t", "begin u", line, "worth u bbb 7", "begin v", "see v bbb", "node v zzz 8", "commit v", "commit u"]
            self.same(graph_tale(64, 24, lines)[-1], "(Refused)" if refused else "3")

    def test_a_cut(self):
        self.tale(["soon t", "cut", "last", "begin t", "graph t"], "1", "ok", "0", "ok", "none")
        self.tale(["soon t", "force", "begin u", "worth u aaa 9", "cut", "last", "see u aaa", "begin u", "see u aaa", "worth u aaa 4", "soon u", "cut", "last", "lasting"],
                  "1", "ok", "ok", "ok", "ok", "1", "(NoName)", "ok", "1", "ok", "2", "ok", "1", "1")
        self.same(graph_tale(64, 24, ["begin t", "node t aaa 1", "soon t", "lasting", "reach 1", "lasting", "cut", "last", "lasting"]), ["ok", "ok", "1", "0", "ok", "0", "ok", "1", "1"])


GOOD = ["begin t", "abort t", "commit t", "soon t", "snapshot t", "node t aaa 5", "worth t aaa 5", "unnode t aaa", "tie t aaa xy bbb 5", "weight t aaa xy bbb 5", "untie t aaa xy bbb", "see t aaa", "from t aaa", "to t aaa", "sum t aaa bbb xy",
        "path t aaa bbb xy", "sums t aaa xy", "plan t aaa bbb xy", "graph t", "kept", "forget", "debt", "sweep 5", "vacuum", "force", "check", "dirty", "out 5", "reach 5", "last", "lasting", "cut"]
TAKES_EXPRESSION = ("sum", "path", "sums", "plan")


class WrongLines(Case):
    def wrong(self, *lines):
        desk = GraphDesk(64, 24)
        desk.tell("begin t")
        for line in lines:
            with self.subTest(line=line):
                self.raises(NoLine, desk.tell, line)
        self.same(desk.tell("see t aaa"), "none")

    def test_words_and_blanks(self):
        for line in GOOD:
            words = line.split(" ")
            takes = words[0] in TAKES_EXPRESSION
            shorter = [" ".join(words[:k] + words[k + 1:]) for k in range(len(words))]
            blanks = [line.replace(" ", "  ", 1), " " + line, line.replace(" ", "\t"), line.replace(" ", "\n"), line + "\n", line.upper(), line.capitalize(), line[1:], "x" + line, line + "x" if len(words) == 1 else ""]
            longer = [line + " ", line + " 5", line + " aaa", line + " "] if not takes else [line + " 5", line + " aaa"]
            middle = [" ".join(words[:k] + [""] + words[k:]) for k in range(1, len(words) - takes)] + [" ".join(words[:k] + [words[k]] + words[k:]) for k in range(len(words)) if not takes or k + 1 < len(words)]
            self.wrong(*shorter, *[other for other in blanks if other != line], *longer, *middle)

    def test_names_and_words(self):
        for line in GOOD:
            words = line.split(" ")
            for k, word in enumerate(words[1:], 1):
                if word == "t":
                    others = ["T", "t1", "", "abcdefghi", "a_", "t.", "5", "-", "t-u"]
                elif word in ("aaa", "bbb"):
                    others = ["aa", "aaaa", "AAA", "a1a", "", "a.a", "555", "aa~"]
                elif word == "xy" and words[0] not in TAKES_EXPRESSION:
                    others = ["x", "xyz", "XY", "x1", "", "~xy", "."]
                else:
                    continue
                self.wrong(*[" ".join(words[:k] + [other] + words[k + 1:]) for other in others])

    def test_numbers(self):
        for line in ("tie t aaa xy bbb ", "weight t aaa xy bbb ", "sweep ", "out ", "reach "):
            self.wrong(*[line + text for text in ["", "05", "00", "-1", "-0", "+1", "1.5", "a", "1a", "0x1", "1 ", " 1", "1_0", "1000000000000000001", "9" * 60, "1" * 5000, "1,0", "--1"]])
        for line in ("node t aaa ", "worth t aaa "):
            self.wrong(*[line + text for text in ["", "05", "00", "-0", "-05", "-00", "+1", "--1", "-", "1-", "a", "- 1", "1000000000000000001", "-1000000000000000001", "9" * 60, "-" + "9" * 5000, "1e3", "None", "none"]])
        desk = GraphDesk(64, 24)
        for line in ("begin t", "node t aaa 1000000000000000000", "worth t aaa -1000000000000000000", "worth t aaa 0", "worth t aaa -1", "tie t aaa xy aaa 1000000000", "weight t aaa xy aaa 0"):
            self.same(desk.tell(line), "ok")
        for line in ("tie t aaa zz aaa 1000000001", "weight t aaa xy aaa 1000000000000000000"):
            self.raises(NoWeight, desk.tell, line)

    def test_expressions(self):
        for line in ("sum t aaa bbb ", "path t aaa bbb ", "sums t aaa ", "plan t aaa bbb "):
            self.wrong(*[line + text for text in ["", " ", "xyz", "x", "xy |", "(xy", "xy)", "*", "[<05]", "xy{2,1}", "xy\n", "xy" + "*" * 30, "xy" + "{9,9}" * 3, "!", "xy{1,2", "[<1000000000000000001]", " " * 100001, "xy" + " " * 100000]])
            self.wrong(line[:-1])
        desk = GraphDesk(64, 24)
        for text in ("begin t", "node t aaa 1", "node t bbb 2", "tie t aaa xy bbb 5"):
            desk.tell(text)
        for text in ("xy", " xy", "  ( xy )  ", "xy | ab", "[=1] xy [>1]", ".", "xy{1,1}", "(xy|~xy)+"):
            self.same(desk.tell("sum t aaa bbb " + text), "5")
            self.same(desk.tell("path t aaa bbb " + text), "5 aaa xy bbb")
            self.same(desk.tell("sums t aaa " + text).split(" ")[-1], "bbb=5")
            self.same(len(desk.tell("plan t aaa bbb " + text).split(" ")), 3)

    def test_what_is_no_line(self):
        self.wrong(*odd_things(), *["t", "begin", "beginning t", "stop", "help", "node", "#", "begin\tt", "kept kept", "cut ()", "cut 5", "force t", "dirty 1", "forget t", "vacuum 8", "check 1", "last 1", "lasting t", "debt 1"], ("begin", "t"), ["begin t"], b"begin u", 5)

    def test_ahead_of_all_else(self):
        """A line of another form is NoLine whatever its T; NoName comes ahead of what the store would raise."""
        desk = GraphDesk(64, 24)
        for line in ("see u", "commit u u", "tie u aaa xy bbb -1", "sum u aaa bbb (", "begin U"):
            self.raises(NoLine, desk.tell, line)
        desk.tell("begin t")
        self.raises(NoLine, desk.tell, "begin t t")

    def test_errors_of_the_store(self):
        desk = GraphDesk(64, 24)
        for line in SMALL:
            desk.tell(line)
        for line, kind in [("node t aaa 1", NodeThere), ("worth t zzz 1", NotANode), ("unnode t zzz", NotANode), ("unnode t aaa", NodeTied), ("tie t aaa ab zzz 1", NotANode), ("tie t zzz ab aaa 1", NotANode), ("tie t aaa xy bbb 1", TieThere),
                           ("weight t aaa zz bbb 1", NotATie), ("untie t ccc ab aaa", NotATie), ("sweep 0", NoNumber), ("out 50", NoPage), ("reach 64", NoBlock), ("reach 20", NothingWaits)]:
            self.raises(kind, desk.tell, line)
        self.same(self.raises(NotANode, desk.tell, "worth t zzz 1").name, "zzz")
        self.same(desk.tell("graph t"), "aaa=1 bbb=-2 ccc=0 aaa:ab:ccc=7 aaa:xy:bbb=5 bbb:xy:aaa=1")


class Tales(Case):
    def test_errors_as_words(self):
        self.same(graph_tale(64, 24, ["begin t", "begin t", "see u aaa", "x", None, 5, ["begin t"], "worth t aaa 1", "sweep 0", "see t aaa"]),
                  ["ok", "(InUse)", "(NoName)", "(NoLine)", "(NoLine)", "(NoLine)", "(NoLine)", "(NotANode)", "(NoNumber)", "none"])
        self.same(graph_tale(64, 24, odd_things()), ["(NoLine)"] * len(odd_things()))

    def test_a_new_desk_each_time(self):
        for lines in (E14, tuple(E14), [], ()):
            self.same(graph_tale(64, 24, lines), graph_tale(64, 24, lines))
        self.same((graph_tale(64, 24, []), graph_tale(64, 24, ())), ([], []))
        graph_tale(64, 24, E14).clear()
        self.same(len(graph_tale(64, 24, E14)), 9)
        self.same(E14[0], "begin t")

    def test_no_lines(self):
        for thing in [thing for thing in odd_things() if not isinstance(thing, (list, tuple))] + ["begin t", None, 5, {"begin t": 1}]:
            self.raises(NoLines, graph_tale, 64, 24, thing)

    def test_the_store_comes_first(self):
        for sizes in [(15, 4), (601, 24), (64, 3), (64, 57), (None, 24), (64, "24"), (64, True), (10 ** 59, 24)] + [(thing, 24) for thing in odd_things()] + [(64, thing) for thing in odd_things()]:
            self.raises(BadDisk, GraphDesk, *sizes)
            self.raises(BadDisk, graph_tale, *sizes, None)
            self.raises(BadDisk, graph_tale, *sizes, E14)
