"""The places of a question: nodes of a ground and states of the expression's automaton, with the steps between."""

from wholeways.automata import START, automaton
from wholeways.expressions import bits_of
from wholeways.kinds import is_pair, is_within
from wholeways.walkers import Walker


class Field:
    """Asks the ground only for what is needed of the places that it is asked for."""

    def __init__(self, ground, question):
        self._ground = ground
        self._begin, expression, self._end = question
        self._walker = Walker(automaton(expression))

    def walker(self):
        """What the automaton tells."""
        return self._walker

    def is_place(self, thing):
        """Whether a thing is a pair of a node that is there and a state."""
        if not is_pair(thing) or self._ground.worth_at(thing[0]) is None:
            return False
        return is_within(thing[1], START, self._walker.many_states() - 1)

    def begin_places(self):
        """The list of the beginning, empty if its node is not there."""
        return [] if self._ground.worth_at(self._begin) is None else [(self._begin, START)]

    def end_places(self):
        """The ascending list of the ends."""
        worth = self._ground.worth_at(self._end)
        if worth is None:
            return []
        return [(self._end, state) for state in bits_of(self._walker.closing_states(worth))]

    def can_end_at(self, place):
        """Whether one may end at a place, if its node were the end."""
        node, state = place
        return self._walker.closing_states(self._ground.worth_at(node)) >> state & 1 == 1

    def steps_on(self, place):
        """The list of the triples (place, step, weight) of the places to which one step leads."""
        node, state = place
        worth = self._ground.worth_at(node)
        if worth is None:
            return []
        found = []
        states = self._walker.states_behind(worth, state)
        for step, other, weight in self._ground.steps_out(node, self._walker.wanted_steps(worth, state)):
            after = states & self._walker.states_let(step)
            found.extend([((other, behind), step, weight) for behind in bits_of(after)])
        return found

    def steps_back(self, place):
        """The list of the triples (place, step, weight) of the places from which one step leads to a place."""
        node, state = place
        found = []
        for step, other, weight in self._ground.steps_in(node, self._walker.coming_steps(state)):
            worth = self._ground.worth_at(other)
            if worth is not None and self._walker.states_let(step) >> state & 1 == 1:
                ahead = self._walker.states_ahead(worth, state)
                found.extend([((other, own), step, weight) for own in bits_of(ahead)])
        return found
