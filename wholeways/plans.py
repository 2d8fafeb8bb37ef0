"""The planner: from which side a question is to be gone on, and how far each side comes."""

from wholeways.fields import Field
from wholeways.grounds import PlainGround, StoreGround
from wholeways.products import need_question
from wholeways.searching import BACKWARD, BOTH, FORWARD, need_plan, searched
from wholeways.shape import need_open


def weighed(graph, question):
    """The pair of how many steps lead from the beginning, and how many to the ends."""
    need_question(question)
    return weights_of(Field(PlainGround(graph), question))


def weights_of(field):
    front = [len(field.steps_on(place)) for place in field.begin_places()]
    back = [len(field.steps_back(place)) for place in field.end_places()]
    return (sum(front), sum(back))


def plan_of(weights):
    """The side of the fewer steps, if these are at most half of the other ones."""
    front, back = weights
    if 2 * front <= back:
        return FORWARD
    return BACKWARD if 2 * back <= front else BOTH


def chosen(graph, question):
    """The word of the plan that is to be taken."""
    return plan_of(weighed(graph, question))


def chosen_in(store, number, question):
    """The word of the plan that is to be taken for what a transaction sees."""
    need_open(store, number)
    need_question(question)
    return plan_of(weights_of(Field(StoreGround(store, number), question)))


def reach(graph, question, plan):
    """The pair of how far each side has come when a plan ends, None for one that has no place left."""
    need_question(question)
    need_plan(plan)
    return searched(PlainGround(graph), question, plan).how_far()
