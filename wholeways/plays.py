"""Graph plays: sessions of orders, a schedule of steps, and how often a session may try anew."""

from wholeways.errors import NoPlay
from wholeways.kinds import is_lot, is_triple, is_within
from wholeways.orders import is_order

MOST_SESSIONS = 6
MOST_ORDERS = 40
MOST_STEPS = 400
MOST_TRIES = 5
GREATEST_NUMBER = 10 ** 18
ALONE = ("force", "vacuum", "check")


def need_play(play):
    """NoPlay with the first part by which a thing is no play."""
    if not is_triple(play) or not are_sessions(play[0]):
        raise NoPlay("sessions")
    sessions, schedule, tries = play
    if not isinstance(schedule, tuple) or len(schedule) > MOST_STEPS:
        raise NoPlay("schedule")
    if not is_within(tries, 0, MOST_TRIES):
        raise NoPlay("tries")
    for index, step in enumerate(schedule):
        if not is_play_step(step, len(sessions)):
            raise NoPlay(index)


def are_sessions(thing):
    if not isinstance(thing, tuple) or not 1 <= len(thing) <= MOST_SESSIONS:
        return False
    return all([is_session(session) for session in thing])


def is_session(thing):
    if not isinstance(thing, tuple) or len(thing) > MOST_ORDERS:
        return False
    return all([is_order(order) for order in thing])


def is_play_step(thing, many):
    """Whether a thing is a step of a schedule for so many sessions."""
    if not isinstance(thing, tuple) or len(thing) not in (1, 2):
        return False
    if len(thing) == 1:
        return thing[0] in ALONE
    word, told = thing
    if word in ("go", "soon"):
        return is_within(told, 0, many - 1)
    if word in ("out", "reach"):
        return is_within(told, 0, GREATEST_NUMBER)
    return word == "cut" and is_lot(told) and all([block <= GREATEST_NUMBER for block in told])
