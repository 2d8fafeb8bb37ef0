"""Two automata walked side by side: pairs of the states in which one may stand in the one, and in the other."""

from wholeways.expressions import bits_of
from wholeways.paths import AGAINST, ALONG
from wholeways.ranges import starts_of
from wholeways.walkers import Walker, stretches_of

# in each of both automata state 0 alone, as bits
BEGINNING = (1, 1)
LETTERS = "abcdefghijklmnopqrstuvwxyz"


class SideBySide:
    """Tells of a pair where it leads by a worth of each kind and each step, and whether it parts them."""

    def __init__(self, first, second):
        self._first = Walker(first)
        self._second = Walker(second)
        # one worth of each kind
        self._worths = starts_of(stretches_of(first) + stretches_of(second))
        self._steps = steps_to_try(first.atoms + second.atoms)
        self._closing = []
        for worth in self._worths:
            both = (self._first.closing_states(worth), self._second.closing_states(worth))
            if both not in [told for told, _ in self._closing]:
                self._closing.append((both, worth))
        # what was told of states together
        self._moved = ({}, {})

    def walkers(self):
        """The pair of both automata, set out for walking."""
        return (self._first, self._second)

    def worth_apart(self, pair):
        """A worth at which one can end in just one of both, None if there is none."""
        for (first, second), worth in self._closing:
            if (pair[0] & first == 0) != (pair[1] & second == 0):
                return worth
        return None

    def led_to(self, pair):
        """The list of the triples (pair, worth, step) of all pairs to which one step leads, each pair once."""
        moved = {}
        for index, worth in enumerate(self._worths):
            first = self._moves_of(0, self._first, pair[0], index, worth)
            second = self._moves_of(1, self._second, pair[1], index, worth)
            if (first, second) not in moved:
                moved[(first, second)] = worth
        found = {}
        for (first, second), worth in moved.items():
            for step in self._steps:
                other = (first & self._first.states_let(step), second & self._second.states_let(step))
                if other not in found:
                    found[other] = (worth, step)
        return [(other, worth, step) for other, (worth, step) in found.items()]

    def _moves_of(self, side, walker, states, index, worth):
        """All states to which a move leads from one of these, by a worth."""
        known = self._moved[side]
        if (states, index) not in known:
            found = 0
            for state in bits_of(states):
                found = found | walker.states_behind(worth, state)
            known[(states, index)] = found
        return known[(states, index)]


def steps_to_try(atoms):
    """The steps by all words of these atoms, and by one further word, both ways."""
    words = {atom[1]: True for atom in atoms if atom[0] != "any"}
    further = [first + second for first in LETTERS for second in LETTERS if first + second not in words]
    return [(word, way) for word in sorted(words) + further[:1] for way in (ALONG, AGAINST)]
