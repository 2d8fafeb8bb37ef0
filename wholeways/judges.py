"""Judges of histories: what dealings have seen, in which orders they can stand, and which rings forbid all."""

from heapq import heappop, heappush

from wholeways.errors import BadDealing, BadHistory, NoIndex, NoNumber, NoOrder, NotSerial, TooMany
from wholeways.kinds import is_integer, is_number, is_within
from wholeways.needs import need_key
from wholeways.seen import are_keys, are_ranges, are_writes, has_seen_key, written_keys
from wholeways.ties import is_tied, ring_from, writes_one_of

MOST_DEALINGS = 300
MOST_COUNTED = 14


class Dealing:
    """What a committed transaction leaves: its snapshot, its number, what it has seen, what it wrote."""

    def __init__(self, snapshot, number, gets, ranges, writes):
        if not is_number(snapshot):
            raise BadDealing("snapshot")
        if not can_be_number(number, snapshot, writes):
            raise BadDealing("number")
        if not are_keys(gets):
            raise BadDealing("gets")
        if not are_ranges(ranges):
            raise BadDealing("ranges")
        if not are_writes(writes):
            raise BadDealing("writes")
        self.snapshot = snapshot
        self.number = number
        self.gets = gets
        self.ranges = ranges
        self.writes = writes

    def __eq__(self, other):
        return (isinstance(other, Dealing) and self.snapshot == other.snapshot and self.number == other.number
                and self.gets == other.gets and self.ranges == other.ranges and self.writes == other.writes)


def can_be_number(number, snapshot, writes):
    """What writes nothing has no number; of writes that are no tuple it is not known whether they are some."""
    is_above = is_integer(number) and number > snapshot
    if not isinstance(writes, tuple):
        return is_above or number is None
    if len(writes) == 0:
        return number is None
    return is_above


def need_history(history):
    """BadHistory for what is no history."""
    if not isinstance(history, tuple) or len(history) > MOST_DEALINGS:
        raise BadHistory(-1)
    written = 0
    for index, dealing in enumerate(history):
        if not isinstance(dealing, Dealing) or dealing.snapshot > written:
            raise BadHistory(index)
        if dealing.number is not None:
            written += 1
            if dealing.number != written:
                raise BadHistory(index)


def need_place(history, index, key):
    """NoIndex and NoKey for what is no index of a history, and no key."""
    if not is_within(index, 0, len(history) - 1):
        raise NoIndex()
    need_key(key)


def sees(history, index, key):
    """The number of the commit whose version of a key a dealing has seen, or would see, 0 for none."""
    need_history(history)
    need_place(history, index, key)
    return newest(numbers_of_keys(history).get(key, []), history[index].snapshot)


def has_seen(history, index, key):
    """Whether the key is one that a dealing has seen."""
    need_history(history)
    need_place(history, index, key)
    return has_seen_key(history[index], key)


def numbers_of_keys(history):
    """Of each key that is written, ascending, the ascending list of the numbers of the commits that write it."""
    found = {}
    for dealing in history:
        for key in written_keys(dealing):
            found.setdefault(key, []).append(dealing.number)
    return {key: found[key] for key in sorted(found)}


def newest(numbers, snapshot):
    """The greatest of the numbers up to a snapshot, 0 if there is none."""
    return max([number for number in numbers if number <= snapshot], default=0)


def is_full_order(history, thing):
    """Whether a thing is a tuple of all indexes of a history, each once."""
    if not isinstance(thing, tuple) or len(thing) != len(history):
        return False
    if not all([is_integer(index) for index in thing]):
        return False
    return sorted(thing) == list(range(len(history)))


def is_serial_order(history, thing):
    """Whether a thing is an order in which each dealing finds what it has seen."""
    need_history(history)
    return is_full_order(history, thing) and failure_in(history, thing) is None


def first_failure(history, order):
    """The pair (index, key) of the first dealing, and its least key, at which an order fails, or None."""
    need_history(history)
    if not is_full_order(history, order):
        raise NoOrder()
    return failure_in(history, order)


def failure_in(history, order):
    """Runs the dealings over a dict from keys to the numbers that stand there."""
    numbers = numbers_of_keys(history)
    stands = {}
    for index in order:
        dealing = history[index]
        key = failing_key(dealing, numbers, stands)
        if key is not None:
            return (index, key)
        for written in written_keys(dealing):
            stands[written] = dealing.number
    return None


def failing_key(dealing, numbers, stands):
    """The least key that a dealing has seen otherwise; else the least that it writes under a newer one; else None.

    At a key that nobody writes none stands, just as none is seen: so only written keys are looked at.
    """
    for key in numbers:
        if has_seen_key(dealing, key) and stands.get(key, 0) != newest(numbers[key], dealing.snapshot):
            return key
    for key in written_keys(dealing):
        if stands.get(key, 0) > dealing.number:
            return key
    return None


def ties(history):
    """The ascending list of the pairs (one, other) of indexes with a tie."""
    need_history(history)
    nexts = nexts_of(history)
    return [(one, other) for one in range(len(history)) for other in nexts[one]]


def nexts_of(history):
    """Of each index the ascending list of the indexes to which ties lead."""
    many = len(history)
    return [[other for other in range(many) if other != one and is_tied(history[one], history[other])]
            for one in range(many)]


def serial_order(history):
    """The first of the serial orders, or None."""
    need_history(history)
    return first_order(nexts_of(history))


def first_order(nexts):
    """The first order in which no tie leads back, or None: always the least one goes on that waits for none."""
    ahead = [0 for _ in nexts]
    for row in nexts:
        for other in row:
            ahead[other] += 1
    ready = []
    for index, many in enumerate(ahead):
        if many == 0:
            heappush(ready, index)
    order = []
    while ready:
        index = heappop(ready)
        order.append(index)
        for other in nexts[index]:
            ahead[other] -= 1
            if ahead[other] == 0:
                heappush(ready, other)
    return tuple(order) if len(order) == len(nexts) else None


def is_ring(history, thing):
    """Whether a thing is a ring of indexes of a history."""
    need_history(history)
    if not isinstance(thing, tuple) or len(thing) < 2:
        return False
    if not all([is_within(index, 0, len(history) - 1) for index in thing]) or len(set(thing)) < len(thing):
        return False
    return all([is_tied(history[thing[k - 1]], history[thing[k]]) for k in range(len(thing))])


def ring(history):
    """The first of the shortest rings, or None."""
    need_history(history)
    nexts = nexts_of(history)
    if first_order(nexts) is not None:
        return None
    best = None
    for start in range(len(history)):
        found = ring_from(start, nexts)
        if found is not None and (best is None or len(found) < len(best)):
            best = found
            if len(best) == 2:
                return best
    return best


def many_orders(history):
    """How many serial orders there are."""
    need_history(history)
    many = len(history)
    if many > MOST_COUNTED:
        raise TooMany(MOST_COUNTED)
    ahead = [0 for _ in history]
    for one, row in enumerate(nexts_of(history)):
        for other in row:
            ahead[other] |= 1 << one
    # ways[done]: in how many orders just those whose bits stand in done come first
    ways = [0] * (1 << many)
    ways[0] = 1
    for done in range(1 << many):
        for index in range(many):
            if ways[done] and not done >> index & 1 and ahead[index] & done == ahead[index]:
                ways[done | 1 << index] += ways[done]
    return ways[-1]


def worths_behind(history, order):
    """The dict from keys to worths that the writes of a serial order leave."""
    need_history(history)
    if not is_full_order(history, order):
        raise NoOrder()
    if failure_in(history, order) is not None:
        raise NotSerial()
    worths = {}
    for index in order:
        for key, worth in history[index].writes:
            worths[key] = worth
    return {key: worths[key] for key in sorted(worths) if worths[key] is not None}


def prefix(history, number):
    """The history of the writing ones up to a number, and of the lookers whose snapshot is not greater."""
    need_history(history)
    if not is_number(number):
        raise NoNumber()
    return tuple([dealing for dealing in history if place_of(dealing) <= number])


def place_of(dealing):
    """By which commit number a dealing stands: a looker, which has none, by its snapshot."""
    return dealing.snapshot if dealing.number is None else dealing.number


def lost_updates(history):
    """The ascending list of the pairs of indexes of two writers of one key, the other not seeing the one's commit."""
    need_history(history)
    return [(one, other) for one in range(len(history)) for other in range(len(history))
            if is_lost(history[one], history[other])]


def is_lost(one, other):
    if one.number is None or other.number is None:
        return False
    return other.snapshot < one.number < other.number and writes_one_of(one, written_keys(other))
