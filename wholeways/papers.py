"""The judge of answers: it looks at what an answer tells, and searches for nothing."""

from wholeways.fields import Field
from wholeways.grounds import PlainGround
from wholeways.kinds import is_ascending, is_within
from wholeways.paths import is_path, path_weight
from wholeways.products import need_question
from wholeways.walkers import is_matched


def is_answer(graph, question, thing):
    """Whether a thing is an answer that is right for a graph and a question."""
    need_question(question)
    if not isinstance(thing, tuple) or len(thing) not in (3, 4):
        return False
    field = Field(PlainGround(graph), question)
    if len(thing) == 4:
        return thing[0] == "path" and is_path_answer(graph, question, field, thing)
    return thing[0] == "none" and is_none_answer(field, thing[1], thing[2])


def is_path_answer(graph, question, field, answer):
    _, path, rest, sums = answer
    if not is_path(graph, path) or not is_matching(graph, question, field, path):
        return False
    total = path_weight(graph, path)
    if not is_within(rest, 0, total) or not isinstance(sums, dict):
        return False
    if not all([field.is_place(place) and is_within(value, 0, total) for place, value in sums.items()]):
        return False
    if any([sums.get(place, rest) != 0 for place in field.begin_places()]):
        return False
    if any([sums.get(place, rest) != total for place in field.end_places()]):
        return False
    return all([is_step_wise(field, place, rest, sums) for place in sums])


def is_matching(graph, question, field, path):
    """Whether a path leads from the begin to the end, and the expression matches it."""
    begin, _, end = question
    return path[0] == begin and path[-1] == end and is_matched(field.walker(), graph, path)


def is_step_wise(field, place, rest, sums):
    """Whether no step from or to a place leads to a value greater than the one ahead and the weight together."""
    value = sums[place]
    for other, _, weight in field.steps_on(place):
        if sums.get(other, rest) > value + weight:
            return False
    for other, _, weight in field.steps_back(place):
        if value > sums.get(other, rest) + weight:
            return False
    return True


def is_none_answer(field, side, lot):
    """Whether a lot is closed on the side of the beginning, or of the ends, without what is on the other one."""
    if side not in ("from", "to"):
        return False
    if not isinstance(lot, tuple) or not all([field.is_place(place) for place in lot]) or not is_ascending(lot):
        return False
    inside = {place: True for place in lot}
    begun = [place in inside for place in field.begin_places()]
    ended = [place in inside for place in field.end_places()]
    own, others = (begun, ended) if side == "from" else (ended, begun)
    if not all(own) or any(others):
        return False
    for place in lot:
        steps = field.steps_on(place) if side == "from" else field.steps_back(place)
        if not all([other in inside for other, _, _ in steps]):
            return False
    return True
