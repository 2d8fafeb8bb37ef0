"""Sessions that are woven by a schedule over one store, and the judge of what is told of them."""

from wholeways.errors import BadHistory, NoRoom, Refused, TooLarge
from wholeways.graph import Graph, graph_of
from wholeways.judges import Dealing, serial_order
from wholeways.kept import Kept
from wholeways.kinds import is_lot, is_number, is_pair, is_triple, is_within
from wholeways.orders import in_store, on_graph
from wholeways.papers import is_answer
from wholeways.plays import need_play
from wholeways.store import Store, new_store

ON = "on"
OVER = "over"
REFUSED = "refused"
LOST = "lost"
FULL = "full"
PARTS = ("commits", "forced", "cuts", "refused", "ends", "graph")


class Session:
    """Does its orders one behind another in a transaction, then commits; tries anew as long as it may."""

    def __init__(self, orders, tries):
        self.orders = orders
        self.tries_left = tries
        self.word = ON
        self.number = None
        self.told_so_far = []

    def lose(self, word):
        """The try came to nothing: another one begins with the next step, if there is one left."""
        self.number = None
        self.told_so_far = []
        if self.tries_left == 0:
            self.word = word
        else:
            self.tries_left -= 1


class Play:
    """A store, kept answers and sessions, led by the steps of a schedule."""

    def __init__(self, store, sessions, tries):
        self._store = store
        self._kept = Kept(store)
        self._sessions = [Session(orders, tries) for orders in sessions]
        # triples (session, dealing, told) in the order in which they were told
        self._commits = []
        self._forced = []
        self._cuts = []
        self._gone = {}
        self._refusals = []

    def do(self, step):
        """One step of the schedule."""
        word = step[0]
        if word in ("go", "soon"):
            self._go(step[1], word == "go")
        elif word == "out":
            self._write_one_out(step[1])
        elif word == "reach":
            self._let_one_reach(step[1])
        elif word == "force":
            self._store.force()
        elif word == "check":
            self._store.checkpoint()
        elif word == "vacuum":
            self._vacuum()
        else:
            self._cut(step[1])

    def _write_one_out(self, index):
        pages = self._store.dirty()
        if len(pages) > 0:
            self._store.write_out(pages[index % len(pages)])

    def _let_one_reach(self, index):
        disk = self._store.disk()
        block = index % disk.blocks()
        if block in disk.waiting():
            disk.reach(block)

    def _vacuum(self):
        try:
            self._store.vacuum()
        except (TooLarge, NoRoom):
            pass

    def _go(self, index, is_forced):
        session = self._sessions[index]
        if session.word != ON:
            return
        if session.number is None:
            session.number = self._store.begin()
        done = len(session.told_so_far)
        if done < len(session.orders):
            order = session.orders[done]
            session.told_so_far.append((order, in_store(self._kept, self._store, session.number, order)))
        else:
            self._commit(index, session, is_forced)

    def _commit(self, index, session, is_forced):
        snapshot, keys, ranges, writes = self._store.seen(session.number)
        try:
            if is_forced:
                number = self._kept.commit(session.number)
            else:
                number = self._kept.commit_soon(session.number)
        except Refused as e:
            self._refusals.append((index, e.ring))
            self._store.abort(session.number)
            session.lose(REFUSED)
            return
        except (TooLarge, NoRoom):
            self._store.abort(session.number)
            session.word = FULL
            return
        session.word = OVER
        if is_forced and number is not None:
            self._forced.append(len(self._commits))
        dealing = Dealing(snapshot, number, keys, ranges, writes)
        self._commits.append((index, dealing, tuple(session.told_so_far)))

    def _cut(self, lot):
        disk = self._store.disk()
        disk.force(tuple([block for block in lot if block < disk.blocks()]))
        disk.cut()
        self._store = Store(disk)
        self._kept = Kept(self._store)
        for session in self._sessions:
            if session.word == ON and session.number is not None:
                session.lose(LOST)
        last = self._store.last()
        gone = gone_by(last, [dealing for _, dealing, _ in self._commits], self._gone)
        self._cuts.append((len(self._commits), last, gone))
        for index in gone:
            self._gone[index] = True

    def account(self):
        """What is told of it all."""
        return {
            "commits": [(session, dealing, told, index not in self._gone)
                        for index, (session, dealing, told) in enumerate(self._commits)],
            "forced": tuple(self._forced),
            "cuts": list(self._cuts),
            "refused": list(self._refusals),
            "ends": tuple([session.word for session in self._sessions]),
            "graph": graph_of(self._store.now()),
        }


def gone_by(last, dealings, gone):
    """The lot of the numbers of those dealings that go by a cut behind which this is the last commit."""
    found = []
    for index, dealing in enumerate(dealings):
        place = dealing.snapshot if dealing.number is None else dealing.number
        if index not in gone and place > last:
            found.append(index)
    return tuple(found)


def graph_played(blocks, ring, play):
    """The account of a play over a new store."""
    store = new_store(blocks, ring)
    need_play(play)
    sessions, schedule, tries = play
    played = Play(store, sessions, tries)
    for step in schedule:
        played.do(step)
    return played.account()


def is_right_graph_account(play, account):
    """Whether an account of a play hangs together."""
    need_play(play)
    if not isinstance(account, dict) or not all([part in account for part in PARTS]):
        return False
    if not has_account_form(play[0], account):
        return False
    gone = gone_by_cuts(account)
    if gone is None or any([index in gone for index in account["forced"]]):
        return False
    commits = account["commits"]
    if any([stands == (index in gone) for index, (_, _, _, stands) in enumerate(commits)]):
        return False
    return is_told_by_one_order([row for row in commits if row[3]], account["graph"])


def has_account_form(sessions, account):
    commits = account["commits"]
    if not isinstance(commits, list) or not all([is_commit(sessions, row) for row in commits]):
        return False
    if not isinstance(account["cuts"], list) or not all([is_cut(row) for row in account["cuts"]]):
        return False
    forced = account["forced"]
    if not is_lot(forced) or any([index >= len(commits) for index in forced]):
        return False
    return isinstance(account["graph"], Graph)


def is_commit(sessions, thing):
    """Whether a thing is a quadruple (session, dealing, told, stands), its orders being the session's."""
    if not isinstance(thing, tuple) or len(thing) != 4:
        return False
    session, dealing, told, stands = thing
    if not is_within(session, 0, len(sessions) - 1) or not isinstance(dealing, Dealing) or not isinstance(stands, bool):
        return False
    if not isinstance(told, tuple) or not all([is_pair(pair) for pair in told]):
        return False
    return is_like(tuple([order for order, _ in told]), sessions[session])


def is_cut(thing):
    return is_triple(thing) and is_number(thing[0]) and is_number(thing[1]) and is_lot(thing[2])


def gone_by_cuts(account):
    """The dict of the numbers of the commits that are gone by some cut, None if a cut tells others than go by it."""
    dealings = [dealing for _, dealing, _, _ in account["commits"]]
    gone = {}
    ahead = 0
    for many, last, lot in account["cuts"]:
        if many < ahead or many > len(dealings) or lot != gone_by(last, dealings[:many], gone):
            return None
        for index in lot:
            gone[index] = True
        ahead = many
    return gone


def is_told_by_one_order(commits, graph):
    """Whether commits, one behind another in a serial order, are told just what they tell, and leave the graph."""
    try:
        order = serial_order(tuple([dealing for _, dealing, _, _ in commits]))
    except BadHistory:
        return False
    if order is None:
        return False
    found = Graph((), ())
    for index in order:
        for deed, told in commits[index][2]:
            behind, expected = on_graph(found, deed)
            right = is_answer(found, deed[1:], told) if deed[0] == "best" else is_like(told, expected)
            if not right:
                return False
            found = behind
    return found == graph


def is_like(thing, other):
    """Whether a thing equals another one of tuples, strings, integers and None, kind by kind: a flag is no integer."""
    if isinstance(other, tuple):
        if not isinstance(thing, tuple) or len(thing) != len(other):
            return False
        return all([is_like(part, own) for part, own in zip(thing, other)])
    return thing == other and not isinstance(thing, bool)
