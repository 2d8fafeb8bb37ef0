"""Automata of path expressions: states, moves between them by worths and steps, and where one may end."""

from wholeways.building import Builder
from wholeways.errors import NoPlace
from wholeways.expressions import lets, need_expression
from wholeways.graph import worth_there
from wholeways.kinds import is_pair, is_within
from wholeways.paths import AGAINST, ALONG, need_path, steps_at
from wholeways.ranges import is_in

START = 0
ANY_STEP = ""


class Automaton:
    """State 0 and one for each atom, from 1 on; triples (state, stretch, next); pairs (state, stretch)."""

    def __init__(self, atoms, moves, ends):
        self.atoms = atoms
        self.moves = moves
        self.ends = ends

    def __eq__(self, other):
        return (isinstance(other, Automaton) and self.atoms == other.atoms and self.moves == other.moves
                and self.ends == other.ends)


def automaton(expression):
    """The automaton of an expression."""
    need_expression(expression)
    builder = Builder()
    whole = builder.build(expression)
    moves = [(START, stretch, state) for state, row in whole.begins.items() for stretch in row]
    moves.extend([(state, stretch, after) for (state, after), row in whole.inner.items() for stretch in row])
    ends = [(START, stretch) for stretch in whole.empty]
    ends.extend([(state, stretch) for state, row in whole.closes.items() for stretch in row])
    return Automaton(builder.numbered(), tuple(sorted(moves)), tuple(sorted(ends)))


def passes(graph, node, stretch):
    """Whether the worth of a node that is there is in a stretch."""
    worth = worth_there(graph, node)
    return worth is not None and is_in(worth, stretch)


def lot_of(numbers):
    """The lot of numbers that may stand more than once."""
    return tuple(sorted(set(numbers)))


def nexts(automaton, worth, state):
    """The lot of the states to which a move leads from a state, by the worth of the node where one stands."""
    return lot_of([after for own, stretch, after in automaton.moves if own == state and is_in(worth, stretch)])


def behind(automaton, worth, state, step):
    """The lot of the states to which a step leads from a state, at a node of this worth."""
    return tuple([after for after in nexts(automaton, worth, state) if lets(automaton.atoms[after - 1], step)])


def ahead(automaton, worth, state, step):
    """The lot of the states from which a step leads to a state, from a node of this worth."""
    if state == START or not lets(automaton.atoms[state - 1], step):
        return ()
    return lot_of([own for own, stretch, after in automaton.moves if after == state and is_in(worth, stretch)])


def steps_of(atom):
    """The pairs (word, way) of the steps that an atom lets, the word of any being empty."""
    if atom[0] == "any":
        return [(ANY_STEP, AGAINST), (ANY_STEP, ALONG)]
    return [(atom[1], ALONG if atom[0] == "word" else AGAINST)]


def wants(automaton, worth, state):
    """The ascending tuple of the pairs (word, way) of the steps that can go on from a state."""
    atoms = [automaton.atoms[after - 1] for after in nexts(automaton, worth, state)]
    return tuple(sorted(set([step for atom in atoms for step in steps_of(atom)])))


def comes(automaton, state):
    """The ascending tuple of the pairs (word, way) of the steps that lead to a state."""
    if state not in [after for _, _, after in automaton.moves]:
        return ()
    return tuple(steps_of(automaton.atoms[state - 1]))


def ends_with(automaton, worth, state):
    """Whether one may end in a state at a node of this worth."""
    return any([own == state and is_in(worth, stretch) for own, stretch in automaton.ends])


def need_place(automaton, graph, place):
    """NoPlace for what is no pair of a node that is there and a state."""
    if not is_pair(place) or worth_there(graph, place[0]) is None:
        raise NoPlace()
    if not is_within(place[1], START, len(automaton.atoms)):
        raise NoPlace()


def next_places(automaton, graph, place):
    """The ascending list of the triples (place, step, weight) of the places to which one step leads."""
    need_place(automaton, graph, place)
    node, state = place
    states = nexts(automaton, worth_there(graph, node), state)
    found = []
    for step, other, weight in steps_at(graph, node):
        found.extend([((other, after), step, weight) for after in states if lets(automaton.atoms[after - 1], step)])
    return sorted(found)


def can_end(automaton, graph, place):
    """Whether one may end at a place."""
    need_place(automaton, graph, place)
    node, state = place
    return ends_with(automaton, worth_there(graph, node), state)


def run(automaton, graph, path):
    """The first of the runs along a path, by the order of tuples, None if there is none."""
    need_path(graph, path)
    leading = leading_states(automaton, graph, path)
    if START not in leading[0]:
        return None
    found = [START]
    for k, step in enumerate(path[1::2]):
        after = behind(automaton, worth_there(graph, path[2 * k]), found[-1], step)
        found.append(min([state for state in after if state in leading[k + 1]]))
    return tuple(found)


def leading_states(automaton, graph, path):
    """For each place of a path the dict of the states that lead to an end along the rest of it."""
    worths = [worth_there(graph, name) for name in path[::2]]
    leading = [{state: True for state, stretch in automaton.ends if is_in(worths[-1], stretch)}]
    for worth, step in reversed(list(zip(worths, path[1::2]))):
        let = {state: True for state in leading[-1] if state != START and lets(automaton.atoms[state - 1], step)}
        leading.append({own: True for own, stretch, after in automaton.moves if after in let and is_in(worth, stretch)})
    return leading[::-1]
