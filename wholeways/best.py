"""Best paths with papers: answers to questions, least sums, and the places on the way."""

from wholeways.fields import Field
from wholeways.grounds import PlainGround, StoreGround
from wholeways.products import need_question
from wholeways.searching import FORWARD, need_plan, searched, spread
from wholeways.shape import need_open


def field_of(graph, question):
    need_question(question)
    return Field(PlainGround(graph), question)


def places(graph, question):
    """The ascending tuple of all places to which steps lead from the beginning."""
    return tuple(sorted(far(graph, question)))


def far(graph, question):
    """The dict from all these places to the least sums of the ways of steps to them."""
    return spread(field_of(graph, question)).all_sums()


def sums_to(graph, question):
    """The dict from all nodes to which matching paths lead from the begin to the least sums."""
    field = field_of(graph, question)
    found = {}
    for place, total in spread(field).all_sums().items():
        if field.can_end_at(place):
            found[place[0]] = min(total, found.get(place[0], total))
    return {name: found[name] for name in sorted(found)}


def best(graph, question):
    """A right answer."""
    return best_by(graph, question, FORWARD)


def best_sum(graph, question):
    """The least sum of a matching path, None if there is none."""
    need_question(question)
    return searched(PlainGround(graph), question, FORWARD).least_sum()


def best_by(graph, question, plan):
    """A right answer, found by a plan."""
    need_question(question)
    need_plan(plan)
    return searched(PlainGround(graph), question, plan).answer()


def best_in(store, number, question, plan):
    """An answer that is right for what a transaction sees, by what it asks the transaction for alone."""
    need_open(store, number)
    need_question(question)
    need_plan(plan)
    return searched(StoreGround(store, number), question, plan).answer()
