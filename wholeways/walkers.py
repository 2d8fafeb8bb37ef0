"""An automaton set out for walking: several states are the bits of one number, worths are told by their kinds."""

from wholeways.automata import START, steps_of
from wholeways.expressions import bits_of, lets
from wholeways.graph import worth_there
from wholeways.ranges import is_in, starts_of


class Walker:
    """Tells what the automaton tells, and keeps what it told of each kind of worths."""

    def __init__(self, walked):
        self._atoms = walked.atoms
        self._starts = starts_of(stretches_of(walked))
        self._leaving = {state: [] for state in range(START, len(walked.atoms) + 1)}
        self._coming = {state: [] for state in self._leaving}
        for state, stretch, after in walked.moves:
            self._leaving[state].append((stretch, after))
            self._coming[after].append((stretch, state))
        self._end_rows = [(stretch, state) for state, stretch in walked.ends]
        # what was told of kinds, states and steps
        self._kinds = {}
        self._nexts = {}
        self._befores = {}
        self._closing = {}
        self._wanted = {}
        self._let = {}

    def many_states(self):
        """How many states there are."""
        return len(self._leaving)

    def _kind_of(self, worth):
        if worth not in self._kinds:
            self._kinds[worth] = len([start for start in self._starts if start <= worth])
        return self._kinds[worth]

    def states_behind(self, worth, state):
        """The states to which a move leads from a state, at a node of this worth."""
        at = (self._kind_of(worth), state)
        if at not in self._nexts:
            self._nexts[at] = bits_in(worth, self._leaving[state])
        return self._nexts[at]

    def states_ahead(self, worth, state):
        """The states from which a move leads to a state, from a node of this worth."""
        at = (self._kind_of(worth), state)
        if at not in self._befores:
            self._befores[at] = bits_in(worth, self._coming[state])
        return self._befores[at]

    def closing_states(self, worth):
        """The states in which one may end at a node of this worth."""
        kind = self._kind_of(worth)
        if kind not in self._closing:
            self._closing[kind] = bits_in(worth, self._end_rows)
        return self._closing[kind]

    def states_let(self, step):
        """The states whose atoms let a step."""
        if step not in self._let:
            self._let[step] = sum([1 << (k + 1) for k, atom in enumerate(self._atoms) if lets(atom, step)])
        return self._let[step]

    def wanted_steps(self, worth, state):
        """The ascending tuple of the pairs (word, way) of the steps that can go on from a state."""
        at = (self._kind_of(worth), state)
        if at not in self._wanted:
            atoms = [self._atoms[after - 1] for after in bits_of(self.states_behind(worth, state))]
            self._wanted[at] = tuple(sorted(set([step for atom in atoms for step in steps_of(atom)])))
        return self._wanted[at]

    def coming_steps(self, state):
        """The pairs (word, way) of the steps that lead to a state."""
        return tuple(steps_of(self._atoms[state - 1])) if len(self._coming[state]) > 0 else ()


def stretches_of(walked):
    """All stretches of an automaton."""
    return [stretch for _, stretch, _ in walked.moves] + [stretch for _, stretch in walked.ends]


def bits_in(worth, rows):
    """The states of those pairs (stretch, state) in whose stretch a worth is."""
    found = 0
    for stretch, state in rows:
        if is_in(worth, stretch):
            found = found | 1 << state
    return found


def lot_of_bits(states):
    """The lot of the states whose bits are set."""
    return tuple(bits_of(states))


def bits_of_lot(lot):
    """The states of a lot as bits."""
    return sum([1 << state for state in lot])


def is_matched(walker, graph, path):
    """Whether there is a run along a path of a graph, whose expression matches it then."""
    worths = [worth_there(graph, name) for name in path[::2]]
    return states_along(walker, worths, path[1::2]) & walker.closing_states(worths[-1]) != 0


def states_along(walker, worths, steps):
    """The states in which one may stand at the last of the nodes of a path, whose worths these are."""
    states = 1 << START
    for worth, step in zip(worths, steps):
        found = 0
        for state in bits_of(states):
            found = found | walker.states_behind(worth, state)
        states = found & walker.states_let(step)
    return states
