"""Kept answers: what was worked out for one transaction is told again to others for which it is right, too."""

from wholeways.best import best_in
from wholeways.errors import NotKept
from wholeways.plans import chosen_in
from wholeways.products import need_question
from wholeways.shape import need_open


class Asking:
    """Stands in the place of a store while an answer is worked out, and tells what was asked for."""

    def __init__(self, store):
        self._store = store
        self._keys = {}
        self._ranges = {}

    def stands_at(self, number):
        """The snapshot of a transaction."""
        return self._store.stands_at(number)

    def get(self, number, key):
        """What a transaction gets at a key."""
        self._keys[key] = True
        return self._store.get(number, key)

    def between(self, number, low, high):
        """What a transaction gets from low to high."""
        self._ranges[(low, high)] = True
        return self._store.between(number, low, high)

    def asked_keys(self):
        """The ascending tuple of the keys that were asked for."""
        return tuple(sorted(self._keys))

    def asked_ranges(self):
        """The ascending tuple of the pairs (low, high) of the ranges that were asked for."""
        return tuple(sorted(self._ranges))


class KeptAnswer:
    """An answer with its question, the snapshot at which it was worked out, and what this asked for."""

    def __init__(self, question, answer, snapshot, keys, ranges):
        self.question = question
        self.told = answer_copy(answer)
        self.snapshot = snapshot
        self.keys_asked = keys
        self.ranges_asked = ranges

    def is_touched(self, keys):
        """Whether one of these keys was asked for."""
        asked = {key: True for key in self.keys_asked}
        for key in keys:
            if key in asked or any([low <= key <= high for low, high in self.ranges_asked]):
                return True
        return False


class Kept:
    """Keeps answers for a store that is to be led, as far as commits go, by these methods alone."""

    def __init__(self, store):
        self._store = store
        # by what the question looks like, as its expression may be nested too deep for a key
        self._answers = {}
        # from the commits made here to the keys that they wrote
        self._commits_made = {}
        self._many_worked = 0
        self._many_told = 0

    def ask(self, number, question):
        """A right answer to a question in what an open transaction sees."""
        need_open(self._store, number)
        need_question(question)
        kept = self._answers.get(repr(question))
        if kept is None or not self._fits(kept, number):
            return self._worked_out(number, question)
        self._store.also_saw(number, kept.keys_asked, tuple([(low, high, ()) for low, high in kept.ranges_asked]))
        self._many_told += 1
        return answer_copy(kept.told)

    def _own_keys(self, number):
        """The keys that a transaction has written."""
        return [key for key, _ in self._store.wrote(number)]

    def _fits(self, kept, number):
        """Whether all that was asked for lies as it did, for a transaction."""
        if kept.is_touched(self._own_keys(number)):
            return False
        own = self._store.stands_at(number)
        for commit in range(min(own, kept.snapshot) + 1, max(own, kept.snapshot) + 1):
            if commit not in self._commits_made or kept.is_touched(self._commits_made[commit]):
                return False
        return True

    def _worked_out(self, number, question):
        asking = Asking(self._store)
        answer = best_in(asking, number, question, chosen_in(asking, number, question))
        self._many_worked += 1
        kept = KeptAnswer(question, answer, self._store.stands_at(number), asking.asked_keys(), asking.asked_ranges())
        if not kept.is_touched(self._own_keys(number)):
            # what was worked out last stands last
            if repr(question) in self._answers:
                del self._answers[repr(question)]
            self._answers[repr(question)] = kept
        return answer

    def commit(self, number):
        """A transaction commits, and lasts."""
        keys = self._own_keys(number)
        commit = self._store.commit(number)
        self._note(commit, keys)
        return commit

    def commit_soon(self, number):
        """A transaction commits, and may be lost by a cut."""
        keys = self._own_keys(number)
        commit = self._store.commit_soon(number)
        self._note(commit, keys)
        return commit

    def _note(self, commit, keys):
        if commit is not None:
            self._commits_made[commit] = keys

    def worked(self):
        """How many answers were worked out."""
        return self._many_worked

    def told_again(self):
        """How many answers were told again."""
        return self._many_told

    def asked_for(self, question):
        """The pair of the keys and the ranges that the kept answer to a question asked for."""
        need_question(question)
        if repr(question) not in self._answers:
            raise NotKept()
        kept = self._answers[repr(question)]
        return (kept.keys_asked, kept.ranges_asked)

    def questions(self):
        """The list of the questions of which an answer is kept, in the order in which these were worked out."""
        return [kept.question for kept in self._answers.values()]

    def forget(self):
        """No answer is kept any more."""
        self._answers = {}


def answer_copy(answer):
    """The answer with a dict of its own, if it has one."""
    if answer[0] == "none":
        return answer
    _, path, rest, sums = answer
    return ("path", path, rest, {place: sums[place] for place in sums})
