"""What the lines of a desk do, and what they tell."""

from wholeways.best import sums_to
from wholeways.paths import ALONG
from wholeways.plans import chosen, weighed
from wholeways.shape import (add_node, add_tie, drop_node, drop_tie, graph_seen, node_worth, set_node, set_tie,
                             ties_from, ties_to)

DONE = "ok"
NOTHING = "none"


def number_text(number):
    return NOTHING if number is None else str(number)


def row_text(texts):
    return " ".join(texts) if len(texts) > 0 else NOTHING


def ties_text(ties):
    return row_text([word + ":" + name + ":" + str(weight) for word, name, weight in ties])


def sum_of(answer):
    """The sum of an answer's path, None of an answer without one.

    No value of its paper is greater than the sum, and the ends have just this value.
    """
    if answer[0] == "none":
        return None
    return max([answer[2]] + list(answer[3].values()))


def abort(kept, store, number):
    store.abort(number)
    return DONE


def commit(kept, store, number):
    return number_text(kept.commit(number))


def commit_soon(kept, store, number):
    return number_text(kept.commit_soon(number))


def snapshot(kept, store, number):
    return str(store.stands_at(number))


def node(kept, store, number, name, worth):
    add_node(store, number, name, worth)
    return DONE


def new_worth(kept, store, number, name, worth):
    set_node(store, number, name, worth)
    return DONE


def no_node(kept, store, number, name):
    drop_node(store, number, name)
    return DONE


def tie(kept, store, number, first, word, second, weight):
    add_tie(store, number, first, word, second, weight)
    return DONE


def new_weight(kept, store, number, first, word, second, weight):
    set_tie(store, number, first, word, second, weight)
    return DONE


def no_tie(kept, store, number, first, word, second):
    drop_tie(store, number, first, word, second)
    return DONE


def see(kept, store, number, name):
    return number_text(node_worth(store, number, name))


def leading_from(kept, store, number, name):
    return ties_text(ties_from(store, number, name, None))


def leading_to(kept, store, number, name):
    return ties_text(ties_to(store, number, name, None))


def least_sum(kept, store, number, first, second, expression):
    return number_text(sum_of(kept.ask(number, (first, expression, second))))


def best_path(kept, store, number, first, second, expression):
    answer = kept.ask(number, (first, expression, second))
    if answer[0] == "none":
        return NOTHING
    return row_text([str(sum_of(answer))] + [part_text(part) for part in answer[1]])


def part_text(part):
    """The text of a node's name, or a step."""
    if isinstance(part, str):
        return part
    word, way = part
    return word if way == ALONG else "~" + word


def all_sums(kept, store, number, name, expression):
    sums = sums_to(graph_seen(store, number), (name, expression, name))
    return row_text([other + "=" + str(sums[other]) for other in sorted(sums)])


def plan(kept, store, number, first, second, expression):
    question = (first, expression, second)
    graph = graph_seen(store, number)
    front, back = weighed(graph, question)
    return row_text([chosen(graph, question), str(front), str(back)])


def whole_graph(kept, store, number):
    graph = graph_seen(store, number)
    nodes = [name + "=" + str(worth) for name, worth in graph.points]
    return row_text(nodes + [":".join(triple) + "=" + str(weight) for triple, weight in graph.links])


def counts(kept, store):
    return row_text([str(kept.worked()), str(kept.told_again())])


def forget(kept, store):
    kept.forget()
    return DONE


def debt(kept, store):
    return str(store.debt())


def sweep(kept, store, most):
    return str(store.sweep(most))


def vacuum(kept, store):
    return str(store.vacuum())


def force(kept, store):
    store.force()
    return DONE


def check(kept, store):
    store.checkpoint()
    return DONE


def dirty(kept, store):
    return row_text([str(page) for page in store.dirty()])


def out(kept, store, page):
    return "yes" if store.write_out(page) else "no"


def reach(kept, store, block):
    store.disk().reach(block)
    return DONE


def last(kept, store):
    return str(store.last())


def lasting(kept, store):
    return str(store.lasting())


# what is done with a transaction under way, and what with the store alone
OF_ONE = {
    "abort": abort,
    "commit": commit,
    "soon": commit_soon,
    "snapshot": snapshot,
    "node": node,
    "worth": new_worth,
    "unnode": no_node,
    "tie": tie,
    "weight": new_weight,
    "untie": no_tie,
    "see": see,
    "from": leading_from,
    "to": leading_to,
    "sum": least_sum,
    "path": best_path,
    "sums": all_sums,
    "plan": plan,
    "graph": whole_graph,
}
OF_STORE = {
    "kept": counts,
    "forget": forget,
    "debt": debt,
    "sweep": sweep,
    "vacuum": vacuum,
    "force": force,
    "check": check,
    "dirty": dirty,
    "out": out,
    "reach": reach,
    "last": last,
    "lasting": lasting,
}
