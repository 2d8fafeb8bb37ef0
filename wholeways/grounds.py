"""What a search stands on: a plain graph, or what a transaction sees, asked for bit by bit."""

from wholeways.automata import ANY_STEP
from wholeways.graph import worth_there
from wholeways.paths import AGAINST, ALONG, steps_at, turned_step
from wholeways.shape import node_worth, ties_from, ties_to


class PlainGround:
    """A plain graph. There is nothing to spare, so all steps are told, wanted or not."""

    def __init__(self, graph):
        self._graph = graph

    def worth_at(self, name):
        """The worth of a node, None if it is not there."""
        return worth_there(self._graph, name)

    def steps_out(self, name, wanted):
        """The list of the triples (step, other name, weight) of the wanted steps from a node, and perhaps of others."""
        return steps_at(self._graph, name)

    def steps_in(self, name, wanted):
        """The list of the triples (step, first name, weight) of the wanted steps to a node, and perhaps of others."""
        return [(turned_step(step), other, weight) for step, other, weight in steps_at(self._graph, name)]


class StoreGround:
    """What an open transaction sees; each thing is asked for once, and nothing that is not wanted."""

    def __init__(self, store, number):
        self._store = store
        self._number = number
        self._worths = {}
        self._rows = {}

    def worth_at(self, name):
        """The worth of a node, None if it is not there."""
        if name not in self._worths:
            self._worths[name] = node_worth(self._store, self._number, name)
        return self._worths[name]

    def steps_out(self, name, wanted):
        """The list of the triples (step, other name, weight) of the wanted steps from a node."""
        found = []
        for asked, way in needful(wanted):
            found.extend([((word, way), other, weight) for word, other, weight in self._ties(name, asked, way)])
        return found

    def steps_in(self, name, wanted):
        """The list of the triples (step, first name, weight) of the wanted steps to a node."""
        found = []
        for asked, way in needful(wanted):
            # a step along a tie comes to the node to which the tie leads
            found.extend([((word, way), other, weight) for word, other, weight in self._ties(name, asked, -way)])
        return found

    def _ties(self, name, asked, way):
        """The ties from a node, or to it if one goes against them, by a word, or all."""
        at = (name, asked, way)
        if at not in self._rows:
            word = None if asked == ANY_STEP else asked
            ask = ties_from if way == ALONG else ties_to
            self._rows[at] = ask(self._store, self._number, name, word)
        return self._rows[at]


def needful(wanted):
    """Those of the wanted steps which are all: where any word is wanted, none needs to be asked for alone."""
    if (ANY_STEP, ALONG) in wanted:
        return [(ANY_STEP, ALONG), (ANY_STEP, AGAINST)]
    return wanted
