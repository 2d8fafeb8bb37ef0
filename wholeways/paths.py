"""Paths: nodes and steps by turns, each step along a tie or against it."""

from wholeways.errors import NoPath
from wholeways.graph import worth_there
from wholeways.kinds import is_integer, is_name, is_pair, is_tie_word

ALONG = 1
AGAINST = -1


def is_step(thing):
    """Whether a thing is a pair of a word and a way."""
    if not is_pair(thing) or not is_tie_word(thing[0]):
        return False
    return is_integer(thing[1]) and thing[1] in (ALONG, AGAINST)


def has_form(thing):
    """Whether a thing has nodes' names and steps by turns, a name at both ends."""
    if not isinstance(thing, tuple) or len(thing) & 1 == 0:
        return False
    return all([is_name(name) for name in thing[::2]]) and all([is_step(step) for step in thing[1::2]])


def weights_on(graph, path):
    """Of what has the form of a path the list of the weights of its ties, None for each that is not there."""
    found = []
    for k in range(1, len(path), 2):
        word, way = path[k]
        first, second = (path[k - 1], path[k + 1]) if way == ALONG else (path[k + 1], path[k - 1])
        found.append(graph.weight_of((first, word, second)))
    return found


def is_path(graph, thing):
    """Whether a thing is a path whose nodes and ties are all there."""
    if not has_form(thing) or worth_there(graph, thing[0]) is None:
        return False
    # ties lead between nodes that are there, so the first node alone is to be looked at
    return None not in weights_on(graph, thing)


def need_path(graph, path):
    if not is_path(graph, path):
        raise NoPath()


def path_weight(graph, path):
    """The sum of the weights of the ties that a path goes along or against."""
    need_path(graph, path)
    return sum(weights_on(graph, path))


def turned_step(step):
    word, way = step
    return (word, -way)


def turned(path):
    """The path walked backward, each way turned."""
    if not has_form(path):
        raise NoPath()
    return tuple([turned_step(part) if is_step(part) else part for part in reversed(path)])


def steps_at(graph, node):
    """The list of the triples (step, other name, weight) of the steps that can be gone from a node that is there."""
    found = [((word, ALONG), other, weight) for word, other, weight in graph.led_from(node)]
    found.extend([((word, AGAINST), other, weight) for word, other, weight in graph.led_to(node)])
    return found
