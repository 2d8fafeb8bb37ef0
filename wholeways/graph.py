"""Plain graphs of nodes and ties, and the keys and worths by which they lie in a store."""

from wholeways.errors import BadGraph, NotANode, NotWhole
from wholeways.kinds import is_key, is_name, is_pair, is_tie_word, is_triple, is_weight, is_worth

NODE_SIGN = "n"
TIE_SIGN = "t"
TURNED_SIGN = "r"


class Graph:
    """Nodes are pairs (name, worth), ties pairs (triple, weight), a triple being (name, word, name)."""

    def __init__(self, nodes, ties):
        if not are_nodes(nodes):
            raise BadGraph("nodes")
        if not isinstance(ties, tuple):
            raise BadGraph("ties")
        worths = {name: worth for name, worth in nodes}
        for index, tie in enumerate(ties):
            if not is_tie(tie, worths) or (index > 0 and tie[0] <= ties[index - 1][0]):
                raise BadGraph(index)
        self.points = nodes
        self.links = ties
        # all that follows is told by these two
        self._worths = worths
        self._weights = {triple: weight for triple, weight in ties}
        self._leads_from = rows_at(worths, [(first, (word, second, weight)) for (first, word, second), weight in ties])
        self._leads_to = rows_at(worths, [(second, (word, first, weight)) for (first, word, second), weight in ties])

    def __eq__(self, other):
        return isinstance(other, Graph) and self.points == other.points and self.links == other.links

    def worth_of(self, name):
        """The worth of a node, None if it is not there; name can be one."""
        return self._worths.get(name)

    def weight_of(self, triple):
        """The weight of a tie, None if it is not there."""
        return self._weights.get(triple)

    def led_from(self, name):
        """The triples (word, other name, weight) of the ties that lead from a node that is there."""
        return list(self._leads_from[name])

    def led_to(self, name):
        """The triples (word, first name, weight) of the ties that lead to a node that is there."""
        return list(self._leads_to[name])


def are_nodes(thing):
    """Whether a thing is an ascending tuple of pairs (name, worth) of unlike names."""
    if not isinstance(thing, tuple):
        return False
    for index, node in enumerate(thing):
        if not is_pair(node) or not is_name(node[0]) or not is_worth(node[1]):
            return False
        if index > 0 and node[0] <= thing[index - 1][0]:
            return False
    return True


def is_tie(thing, worths):
    """Whether a thing is a tie between two of these nodes."""
    if not is_pair(thing) or not is_triple(thing[0]) or not is_weight(thing[1]):
        return False
    first, word, second = thing[0]
    return is_name(first) and is_tie_word(word) and is_name(second) and first in worths and second in worths


def rows_at(names, pairs):
    """The dict from names to the ascending lists of what pairs (name, thing) tell of them."""
    rows = {name: [] for name in names}
    for name, thing in sorted(pairs):
        rows[name].append(thing)
    return rows


def worth_there(graph, name):
    """The worth of a node, None for what is no name of one."""
    return graph.worth_of(name) if is_name(name) else None


def need_node(graph, name):
    if worth_there(graph, name) is None:
        raise NotANode(name)


def leads_from(graph, name):
    """The ascending list of the triples (word, other name, weight) of the ties that lead from a node."""
    need_node(graph, name)
    return graph.led_from(name)


def leads_to(graph, name):
    """The ascending list of the triples (word, first name, weight) of the ties that lead to a node."""
    need_node(graph, name)
    return graph.led_to(name)


def node_key(name):
    return NODE_SIGN + name


def tie_key(first, word, second):
    return TIE_SIGN + first + word + second


def turned_key(first, word, second):
    """The other key of a tie, by which those that lead to a node stand in a row."""
    return TURNED_SIGN + second + word + first


def pairs_of(graph):
    """The dict of the keys and worths by which a graph lies in a store."""
    pairs = {node_key(name): worth for name, worth in graph.points}
    for (first, word, second), weight in graph.links:
        pairs[tie_key(first, word, second)] = weight
        pairs[turned_key(first, word, second)] = weight
    return pairs


def graph_in(thing):
    """The graph that lies in a dict from keys to worths, None for no such dict, and where there is none."""
    if not isinstance(thing, dict) or not all([is_key(key) and is_worth(worth) for key, worth in thing.items()]):
        return None
    pairs = {key: worth for key, worth in thing.items() if key[0] in (NODE_SIGN, TIE_SIGN, TURNED_SIGN)}
    nodes = sorted([(key[1:], worth) for key, worth in pairs.items() if key[0] == NODE_SIGN])
    ties = sorted([((key[1:4], key[4:6], key[6:]), worth) for key, worth in pairs.items() if key[0] == TIE_SIGN])
    try:
        graph = Graph(tuple(nodes), tuple(ties))
    except BadGraph:
        return None
    return graph if pairs_of(graph) == pairs else None


def is_whole(thing):
    """Whether a thing is a dict from keys to worths that has, of nodes and ties, just those of some graph."""
    return graph_in(thing) is not None


def graph_of(pairs):
    """The graph that lies in such a dict."""
    graph = graph_in(pairs)
    if graph is None:
        raise NotWhole()
    return graph
