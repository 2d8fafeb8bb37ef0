"""Promise 16.1: kept answers, against a plain account of what each working asked for."""

from wholeways.errors import NoQuestion, NotKept, NotOpen, Refused
from wholeways.graph import Graph, graph_of, pairs_of
from wholeways.kept import Kept
from wholeways.papers import is_answer
from wholeways.shape import add_tie, drop_tie, set_node, set_tie
from wholeways.store import Store, new_store

from tests.graphs import NAMES, WORDS, drawn_graph
from tests.helping import Case, drawn, odd_things
from tests.searches import drawn_question
from tests.test_best import NO_QUESTIONS
from tests.test_store import put_all

W = ("word", "ab")
ROW = Graph(tuple((name, 0) for name in ("aaa", "bbb", "ccc", "ddd")), ((("aaa", "ab", "bbb"), 1), (("bbb", "ab", "ccc"), 2), (("ccc", "ab", "ddd"), 3)))
QUESTION = ("aaa", ("star", W), "bbb")


class Listening(Store):
    """A store that tells what it was asked for."""

    def __init__(self, disk):
        Store.__init__(self, disk)
        self.heard()

    def heard(self):
        found = getattr(self, "keys", set()), getattr(self, "ranges", set())
        self.keys, self.ranges = set(), set()
        return found

    def get(self, number, key):
        self.keys.add(key)
        return Store.get(self, number, key)

    def between(self, number, low, high):
        self.ranges.add((low, high))
        return Store.between(self, number, low, high)


def touches(keys, asked):
    return any(key in asked[0] or any(low <= key <= high for low, high in asked[1]) for key in keys)


class Plain:
    """16.1, word by word: kept are the snapshot, what was asked for and the answer of each question."""

    def __init__(self, case, store):
        self.case, self.store, self.kept, self.answers, self.commits = case, store, Kept(store), {}, {}
        self.worked = self.told = 0
        self.worths = {store.last(): store.now()}
        self.counts = {}

    def count(self, name):
        self.counts[name] = self.counts.get(name, 0) + 1

    def sees(self, number):
        snapshot, _, _, wrote = self.store.seen(number)
        found = {**self.worths[snapshot], **dict(wrote)}
        return graph_of({key: worth for key, worth in found.items() if worth is not None})

    def fits(self, number, question):
        if question not in self.answers:
            return False
        snapshot, asked, _ = self.answers[question]
        own = self.store.stands_at(number)
        between = [commit for commit in self.worths if min(own, snapshot) < commit <= max(own, snapshot)]
        fits = all(commit in self.commits and not touches(self.commits[commit], asked) for commit in between)
        if fits and between and not touches([key for key, _ in self.store.wrote(number)], asked):
            self.count("elder" if own < snapshot else "younger")
        if not all(commit in self.commits for commit in between):
            self.count("beside")
        return fits and not touches([key for key, _ in self.store.wrote(number)], asked)

    def ask(self, number, question):
        graph, fits = self.sees(number), self.fits(number, question)
        snapshot, keys, ranges, wrote = self.store.seen(number)
        own = tuple(key for key, _ in wrote)
        self.store.heard()
        answer, heard = self.kept.ask(number, question), self.store.heard()
        self.case.same(is_answer(graph, question, answer), True)
        if fits:
            self.told += 1
            _, asked, kept = self.answers[question]
            self.case.same((heard, answer), ((set(), set()), kept))
            keys, ranges = set(keys) | set(asked[0]), set(ranges) | {(low, high, ()) for low, high in asked[1]}
            self.case.same(self.store.seen(number), (snapshot, tuple(sorted(keys)), tuple(sorted(ranges)), wrote))
        else:
            self.worked += 1
            asked = tuple(sorted(heard[0])), tuple(sorted(heard[1]))
            if touches(own, asked):
                self.count("not kept beside an elder one" if question in self.answers else "not kept")
            else:
                self.count("again" if question in self.answers else "first")
                self.answers.pop(question, None)
                self.answers[question] = snapshot, asked, eval(repr(answer))
        self.spoil(answer)
        self.held()

    def spoil(self, answer):
        if answer[0] == "path":
            answer[3].clear()
            answer[3]["abc"] = 5

    def held(self):
        self.case.same((self.kept.worked(), self.kept.told_again(), self.kept.questions()), (self.worked, self.told, list(self.answers)))
        for question, (_, asked, _) in self.answers.items():
            self.case.same(self.kept.asked_for(question), asked)
        self.kept.questions().clear()

    def commit(self, number, call):
        keys = [key for key, _ in self.store.wrote(number)]
        try:
            commit = call(number)
        except Refused:
            self.count("refused")
            self.store.abort(number)
            return
        if commit is not None:
            self.worths[commit] = self.store.now()
            self.case.same(self.store.last(), commit)
            if call.__self__ is self.kept:
                self.commits[commit] = keys


def change(draw, store, number, graph):
    names = [name for name, _ in graph.points]
    if graph.links and draw.random() < 0.7:
        (first, word, second), weight = draw.choice(graph.links)
        if draw.random() < 0.3:
            drop_tie(store, number, first, word, second)
        else:
            set_tie(store, number, first, word, second, weight + draw.choice((0, 1)) if weight < 10 else 3)
    elif draw.random() < 0.5:
        set_node(store, number, draw.choice(names), draw.choice((0, 1, 2)))
    else:
        triple = draw.choice(names), draw.choice(WORDS[:3]), draw.choice(names)
        if triple not in dict(graph.links):
            add_tie(store, number, *triple, draw.choice((0, 1, 2)))


class Woven(Case):
    def test_against_a_plain_account(self):
        counts = {}
        for seed in range(60):
            draw = drawn(seed)
            store = Listening(new_store(600, 200).disk())
            graph = drawn_graph(draw, NAMES, WORDS[:3], worths=(0, 1, 2), chance=0.08)
            for name in NAMES:
                if name not in dict(graph.points):
                    graph = Graph(tuple(sorted((*graph.points, (name, 0)))), graph.links)
            store.commit(put_all(store, pairs_of(graph)))
            plain, questions, under_way = Plain(self, store), [drawn_question(draw, 3) for _ in range(2)], []
            for _ in range(60):
                way = draw.random()
                if not under_way or (way < 0.2 and len(under_way) < 6):
                    under_way.append(store.begin())
                number = draw.choice(under_way)
                if way < 0.55:
                    plain.ask(number, draw.choice(questions))
                elif way < 0.7:
                    change(draw, store, number, plain.sees(number))
                elif way < 0.93:
                    under_way.remove(number)
                    call = draw.choice((plain.kept.commit, plain.kept.commit_soon, plain.kept.commit_soon, plain.kept.commit, store.commit if seed % 4 == 0 else plain.kept.commit))
                    plain.commit(number, call)
                else:
                    self.same(plain.kept.forget(), None)
                    plain.answers = {}
                    plain.ask(under_way[-1], questions[0])
                plain.held()
            for name, many in {**plain.counts, "worked": plain.worked, "told": plain.told}.items():
                counts[name] = counts.get(name, 0) + many
        for name in ("worked", "told", "elder", "younger", "beside", "first", "again", "not kept", "not kept beside an elder one", "refused"):
            self.assertGreater(counts[name], 5, name)


class Small(Case):
    def setUp(self):
        self.store = Listening(new_store(200, 80).disk())
        self.kept = Kept(self.store)
        self.kept.commit(put_all(self.store, pairs_of(ROW)))

    def counts(self):
        return self.kept.worked(), self.kept.told_again()

    def changes(self, weights):
        """A commit of some weights, None for none."""
        number = self.store.begin()
        for (first, word, second), weight in weights.items():
            set_tie(self.store, number, first, word, second, weight)
        self.kept.commit(number)


class Fits(Small):
    def test_told_again(self):
        one, two = self.store.begin(), self.store.begin()
        answer = self.kept.ask(one, QUESTION)
        self.same(self.counts(), (1, 0))
        self.same(self.kept.ask(two, QUESTION), answer)
        self.same(self.counts(), (1, 1))
        self.same(self.store.seen(two)[1:3], self.store.seen(one)[1:3])
        self.same(self.kept.ask(one, QUESTION), answer)
        self.same(self.counts(), (1, 2))
        keys, ranges = self.kept.asked_for(QUESTION)
        self.same((keys, tuple((low, high, ()) for low, high in ranges)), self.store.seen(one)[1:3])

    def test_a_commit_far_off(self):
        self.kept.ask(self.store.begin(), QUESTION)
        self.changes({("ccc", "ab", "ddd"): 9})
        self.kept.ask(self.store.begin(), QUESTION)
        self.same(self.counts(), (1, 1))

    def test_a_commit_of_what_was_asked_for(self):
        elder = self.store.begin()
        self.same(self.kept.ask(elder, QUESTION)[1], ("aaa", ("ab", 1), "bbb"))
        self.changes({("aaa", "ab", "bbb"): 9})
        younger = self.store.begin()
        self.same(is_answer(graph_of(self.store.now()), QUESTION, self.kept.ask(younger, QUESTION)), True)
        self.same(self.counts(), (2, 0))
        # the kept one is the younger one's now, which does not fit the elder one
        self.kept.ask(elder, QUESTION)
        self.same(self.counts(), (3, 0))
        self.kept.ask(self.store.begin(), QUESTION)
        self.same(self.counts(), (4, 0))

    def test_for_an_elder_transaction(self):
        elder = self.store.begin()
        self.changes({("ccc", "ab", "ddd"): 9})
        self.kept.ask(self.store.begin(), QUESTION)
        self.kept.ask(elder, QUESTION)
        self.same(self.counts(), (1, 1))

    def test_what_lies_in_a_range_that_was_asked_for(self):
        """A tie that is new stands where none was seen."""
        self.kept.ask(self.store.begin(), QUESTION)
        number = self.store.begin()
        add_tie(self.store, number, "aaa", "ab", "aaa", 7)
        self.kept.commit_soon(number)
        self.kept.ask(self.store.begin(), QUESTION)
        self.same(self.counts(), (2, 0))

    def test_the_ends_of_a_range(self):
        """Ties whose keys are the first and the last ones of all that a question by any word asks for."""
        graph = Graph((("aaa", 0), ("zzz", 0)), ((("aaa", "mm", "zzz"), 5),))
        for first, word, second in (("aaa", "aa", "aaa"), ("aaa", "zz", "zzz"), ("zzz", "aa", "aaa"), ("zzz", "zz", "zzz")):
            store = Listening(new_store(200, 80).disk())
            kept = Kept(store)
            kept.commit(put_all(store, pairs_of(graph)))
            question = (first, ("plus", ("any",)), second)
            kept.ask(store.begin(), question)
            ranges = kept.asked_for(question)[1]
            self.assertTrue(ranges)
            number = store.begin()
            add_tie(store, number, first, word, second, 1)
            kept.commit(number)
            kept.ask(store.begin(), question)
            self.same((kept.worked(), kept.told_again()), (2, 0))
            for low, high in ranges:
                for key in (low, high):
                    self.touched(graph, question, key)

    def touched(self, graph, question, key):
        """Whatever is put at a key that was asked for, the answer is not told again."""
        store = Listening(new_store(200, 80).disk())
        kept = Kept(store)
        kept.commit(put_all(store, pairs_of(graph)))
        kept.ask(store.begin(), question)
        kept.commit(put_all(store, {key: 1}))
        self.same((kept.ask(store.begin(), question)[0] in ("path", "none"), kept.worked()), (True, 2))

    def test_own_writes(self):
        """What a transaction wrote of what was asked for: neither told again, nor kept; the elder answer stays."""
        self.kept.ask(self.store.begin(), QUESTION)
        number = self.store.begin()
        set_tie(self.store, number, "ccc", "ab", "ddd", 9)
        self.kept.ask(number, QUESTION)
        self.same(self.counts(), (1, 1))
        asked = self.kept.asked_for(QUESTION)
        set_tie(self.store, number, "aaa", "ab", "bbb", 1)
        self.kept.ask(number, QUESTION)
        self.same((self.counts(), self.kept.asked_for(QUESTION)), ((2, 1), asked))
        self.kept.ask(self.store.begin(), QUESTION)
        self.same(self.counts(), (2, 2))
        other = ("bbb", ("star", W), "ddd")
        number = self.store.begin()
        drop_tie(self.store, number, "bbb", "ab", "ccc")
        self.same(self.kept.ask(number, other)[0], "none")
        self.raises(NotKept, self.kept.asked_for, other)
        self.same(self.kept.questions(), [QUESTION])

    def test_a_commit_beside_this_object(self):
        self.kept.ask(self.store.begin(), QUESTION)
        self.store.commit(put_all(self.store, {"zzz": 1}))
        self.kept.ask(self.store.begin(), QUESTION)
        self.same(self.counts(), (2, 0))
        self.kept.ask(self.store.begin(), QUESTION)
        self.same(self.counts(), (2, 1))

    def test_commits_ahead_of_this_object(self):
        elder = self.store.begin()
        self.changes({("ccc", "ab", "ddd"): 9})
        kept = Kept(self.store)
        kept.ask(elder, QUESTION)
        kept.ask(self.store.begin(), QUESTION)
        self.same((kept.worked(), kept.told_again()), (2, 0))

    def test_told_again_counts_as_seen(self):
        """One to which an answer is told again is refused where one that worked it out would be."""
        self.kept.ask(self.store.begin(), QUESTION)
        number = self.store.begin()
        self.kept.ask(number, QUESTION)
        set_tie(self.store, number, "ccc", "ab", "ddd", 9)
        other = self.store.begin()
        self.store.get(other, "tcccabddd")
        set_tie(self.store, other, "aaa", "ab", "bbb", 9)
        self.kept.commit(other)
        self.raises(Refused, self.kept.commit, number)

    def test_the_order_of_questions(self):
        two = ("bbb", W, "ccc")
        for question in (QUESTION, two, QUESTION):
            self.kept.ask(self.store.begin(), question)
        self.same(self.kept.questions(), [QUESTION, two])
        self.changes({("aaa", "ab", "bbb"): 9})
        self.kept.ask(self.store.begin(), QUESTION)
        self.same(self.kept.questions(), [two, QUESTION])
        self.same(self.kept.forget(), None)
        self.same((self.kept.questions(), self.counts()), ([], (3, 1)))
        self.raises(NotKept, self.kept.asked_for, two)
        self.kept.ask(self.store.begin(), two)
        self.same(self.counts(), (4, 1))

    def test_deep_questions(self):
        deep = W
        for _ in range(29):
            deep = ("star", deep)
        for expression in (deep, ("star", deep[1])):
            self.same(self.kept.ask(self.store.begin(), ("aaa", expression, "ddd"))[0], "path")
        self.same((self.counts(), self.kept.questions()), ((1, 1), [("aaa", deep, "ddd")]))

    def test_spoilt_answers(self):
        answer = self.kept.ask(self.store.begin(), QUESTION)
        kept = repr(answer)
        for _ in range(3):
            answer[3].clear()
            answer = self.kept.ask(self.store.begin(), QUESTION)
            self.same(repr(answer), kept)


class Commits(Small):
    def test_as_of_the_store(self):
        self.same((self.kept.commit(self.store.begin()), self.kept.commit_soon(self.store.begin())), (None, None))
        self.same((self.kept.commit(put_all(self.store, {"a": 1})), self.store.lasting()), (2, 2))
        self.same((self.kept.commit_soon(put_all(self.store, {"a": 2})), self.store.lasting()), (3, 2))
        one, two = self.store.begin(), self.store.begin()
        for number in (one, two):
            self.store.get(number, "a")
            self.store.put(number, "a", number)
        self.kept.commit(one)
        for call in (self.kept.commit, self.kept.commit_soon):
            self.raises(Refused, call, two)
        self.same(list(self.store.open_ones()), [two])
        self.same(self.store.now()["a"], one)

    def test_a_refused_commit_is_no_commit_of_this_object(self):
        """Its number is another one's then, of which nothing is known here."""
        one, two = self.store.begin(), self.store.begin()
        for number in (one, two):
            self.store.get(number, "a")
            self.store.put(number, "a", number)
        self.kept.commit(one)
        self.kept.ask(self.store.begin(), QUESTION)
        self.raises(Refused, self.kept.commit, two)
        self.store.commit(put_all(self.store, {"b": 1}))
        self.kept.ask(self.store.begin(), QUESTION)
        self.same(self.counts(), (2, 0))


class Wrong(Small):
    def test_errors_in_their_order(self):
        number = self.store.begin()
        self.kept.ask(number, QUESTION)
        ahead = self.store.seen(number), self.counts(), self.kept.questions()
        ended = self.store.begin()
        self.store.abort(ended)
        for wrong in odd_things() + [50, ended, 10 ** 59, "1", (number,)]:
            self.raises(NotOpen, self.kept.ask, wrong, None)
            self.raises(NotOpen, self.kept.ask, wrong, QUESTION)
            self.raises(NotOpen, self.kept.commit, wrong)
            self.raises(NotOpen, self.kept.commit_soon, wrong)
        for thing in NO_QUESTIONS:
            self.raises(NoQuestion, self.kept.ask, number, thing)
            self.raises(NoQuestion, self.kept.asked_for, thing)
        for question in (("aaa", W, "bbb"), ("bbb", ("star", W), "aaa"), ("zzz", W, "zzz")):
            self.raises(NotKept, self.kept.asked_for, question)
        self.same((self.store.seen(number), self.counts(), self.kept.questions()), ahead)
