"""Orders: what a session does to a graph or asks of it, on a plain graph and in a store alike."""

from wholeways.best import best_sum
from wholeways.errors import NoDeed, NodeThere, NodeTied, NotANode, NotATie, TieThere
from wholeways.graph import Graph, worth_there
from wholeways.kinds import is_name, is_tie_word, is_weight, is_worth
from wholeways.products import is_question
from wholeways.shape import (add_node, add_tie, drop_node, drop_tie, need_open, node_worth, set_node, set_tie,
                             ties_from, ties_to)

DONE = "ok"
# of the kinds of orders what their parts are
FORMS = {
    "node": ("name", "worth"),
    "worth": ("name", "worth"),
    "unnode": ("name",),
    "tie": ("name", "word", "name", "weight"),
    "weight": ("name", "word", "name", "weight"),
    "untie": ("name", "word", "name"),
    "see": ("name",),
    "from": ("name",),
    "to": ("name",),
}


def is_order(thing):
    """Whether a thing is an order."""
    if not isinstance(thing, tuple) or len(thing) == 0 or not isinstance(thing[0], str):
        return False
    if thing[0] == "best":
        return is_question(thing[1:])
    form = FORMS.get(thing[0])
    if form is None or len(thing) != 1 + len(form):
        return False
    return all([is_part(kind, part) for kind, part in zip(form, thing[1:])])


def is_part(kind, thing):
    if kind == "name":
        return is_name(thing)
    if kind == "word":
        return is_tie_word(thing)
    return is_worth(thing) if kind == "worth" else is_weight(thing)


def need_order(order):
    if not is_order(order):
        raise NoDeed()


def on_graph(graph, order):
    """The pair of the graph behind an order on a plain graph, and what is told."""
    need_order(order)
    kind = order[0]
    if kind == "see":
        return (graph, worth_there(graph, order[1]))
    if kind == "best":
        return (graph, best_sum(graph, order[1:]))
    if kind in ("from", "to"):
        return (graph, ties_told(graph, kind, order[1]))
    word = hindrance(graph, order)
    if word is not None:
        return (graph, ("no", word))
    return (changed(graph, order), DONE)


def ties_told(graph, kind, name):
    """The tuple of the triples of the ties from a node, or to it; of one that is not there there are none."""
    if worth_there(graph, name) is None:
        return ()
    return tuple(graph.led_from(name) if kind == "from" else graph.led_to(name))


def hindrance(graph, order):
    """The name of the error that hinders a change, None if nothing does."""
    kind = order[0]
    if kind in ("weight", "untie"):
        return "NotATie" if graph.weight_of(order[1:4]) is None else None
    if kind == "tie":
        if worth_there(graph, order[1]) is None or worth_there(graph, order[3]) is None:
            return "NotANode"
        return None if graph.weight_of(order[1:4]) is None else "TieThere"
    is_there = worth_there(graph, order[1]) is not None
    if kind == "node":
        return "NodeThere" if is_there else None
    if not is_there:
        return "NotANode"
    if kind == "unnode" and (graph.led_from(order[1]) or graph.led_to(order[1])):
        return "NodeTied"
    return None


def changed(graph, order):
    """The graph behind a change that nothing hinders."""
    nodes = {name: worth for name, worth in graph.points}
    ties = {triple: weight for triple, weight in graph.links}
    kind = order[0]
    if kind in ("node", "worth"):
        nodes[order[1]] = order[2]
    elif kind == "unnode":
        del nodes[order[1]]
    elif kind == "untie":
        del ties[order[1:4]]
    else:
        ties[order[1:4]] = order[4]
    return Graph(tuple(sorted(nodes.items())), tuple(sorted(ties.items())))


def in_store(kept, store, number, order):
    """What is told of an order in an open transaction, a best path being asked of the kept answers."""
    need_order(order)
    need_open(store, number)
    try:
        return told_in(kept, store, number, order)
    except NodeThere:
        return ("no", "NodeThere")
    except NotANode:
        return ("no", "NotANode")
    except NodeTied:
        return ("no", "NodeTied")
    except TieThere:
        return ("no", "TieThere")
    except NotATie:
        return ("no", "NotATie")


def told_in(kept, store, number, order):
    kind = order[0]
    if kind == "best":
        return kept.ask(number, order[1:])
    if kind == "see":
        return node_worth(store, number, order[1])
    if kind == "from":
        return tuple(ties_from(store, number, order[1], None))
    if kind == "to":
        return tuple(ties_to(store, number, order[1], None))
    change_in(store, number, order)
    return DONE


def change_in(store, number, order):
    kind = order[0]
    if kind == "node":
        add_node(store, number, order[1], order[2])
    elif kind == "worth":
        set_node(store, number, order[1], order[2])
    elif kind == "unnode":
        drop_node(store, number, order[1])
    elif kind == "tie":
        add_tie(store, number, order[1], order[2], order[3], order[4])
    elif kind == "weight":
        set_tie(store, number, order[1], order[2], order[3], order[4])
    else:
        drop_tie(store, number, order[1], order[2], order[3])
