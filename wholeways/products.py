"""Questions, and the steps between the places of a graph and an expression's automaton."""

from wholeways.automata import ahead, automaton, need_place, next_places
from wholeways.errors import NoQuestion
from wholeways.expressions import is_expression
from wholeways.graph import worth_there
from wholeways.kinds import is_name, is_triple
from wholeways.paths import steps_at, turned_step


def is_question(thing):
    """Whether a thing is a triple of a node's name, an expression, and a node's name."""
    return is_triple(thing) and is_name(thing[0]) and is_expression(thing[1]) and is_name(thing[2])


def need_question(question):
    if not is_question(question):
        raise NoQuestion()


def steps_from(graph, question, place):
    """The ascending list of the triples (place, step, weight) of the places to which one step leads."""
    need_question(question)
    return next_places(automaton(question[1]), graph, place)


def steps_to(graph, question, place):
    """The ascending list of the triples (place, step, weight) of the places from which one step leads to a place."""
    need_question(question)
    walker = automaton(question[1])
    need_place(walker, graph, place)
    node, state = place
    found = []
    # whoever comes by a step to the node is where the turned step leads from it
    for turned, other, weight in steps_at(graph, node):
        step = turned_step(turned)
        for own in ahead(walker, worth_there(graph, other), state, step):
            found.append(((other, own), step, weight))
    return sorted(found)
