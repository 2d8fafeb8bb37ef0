"""Path expressions over the words of ties and the worths of nodes, and the stretches of paths that they match."""

from wholeways.errors import NoExpression
from wholeways.graph import worth_there
from wholeways.kinds import is_tie_word, is_within, is_worth
from wholeways.paths import AGAINST, ALONG, need_path

MOST_DEEP = 30
MOST_SIZE = 300
MOST_TIMES = 9
SIGNS = ("<", "=", ">")
# of the kinds of expressions with others in them how many these are
PARTS = {"then": 2, "or": 2, "star": 1, "plus": 1, "maybe": 1}


def is_atom(thing):
    """Whether a tuple that begins with a string is word, back or any."""
    if thing[0] == "any":
        return len(thing) == 1
    return thing[0] in ("word", "back") and len(thing) == 2 and is_tie_word(thing[1])


def is_single(thing):
    """Whether a tuple that begins with a string is an expression without another in it."""
    if is_atom(thing):
        return True
    if thing[0] == "here":
        return len(thing) == 1
    if thing[0] != "node" or len(thing) != 3:
        return False
    return isinstance(thing[1], str) and thing[1] in SIGNS and is_worth(thing[2])


def are_times(least, most):
    return is_within(least, 0, MOST_TIMES) and is_within(most, max(least, 1), MOST_TIMES)


def parts_of(thing):
    """Of a tuple that begins with a string its parts, if it is an expression when these are, else none."""
    if thing[0] == "times":
        return thing[3:] if len(thing) == 4 and are_times(thing[1], thing[2]) else ()
    return thing[1:] if len(thing) == 1 + PARTS.get(thing[0], 0) else ()


def measured(thing, deep):
    """The size of an expression that is nested at most so deep, 0 for what is none, or is too large."""
    if deep == 0 or not isinstance(thing, tuple) or len(thing) == 0 or not isinstance(thing[0], str):
        return 0
    if is_single(thing):
        return 1
    sizes = [measured(part, deep - 1) for part in parts_of(thing)]
    if len(sizes) == 0 or 0 in sizes:
        return 0
    found = sum(sizes) * (thing[2] if thing[0] == "times" else 1)
    return found if found <= MOST_SIZE else 0


def is_expression(thing):
    """Whether a thing is an expression, neither too deep nor too large."""
    return measured(thing, MOST_DEEP) > 0


def need_expression(expression):
    if not is_expression(expression):
        raise NoExpression()


def size(expression):
    """How many parts without others in them it has, what stands in times being written out."""
    need_expression(expression)
    return measured(expression, MOST_DEEP)


def turned_expression(expression):
    """The expression that matches the paths turned."""
    need_expression(expression)
    return turned_of(expression)


def turned_of(expression):
    kind = expression[0]
    if kind == "word":
        return ("back", expression[1])
    if kind == "back":
        return ("word", expression[1])
    if kind == "times":
        return expression[:3] + (turned_of(expression[3]),)
    if kind not in PARTS:
        return expression
    parts = [turned_of(part) for part in expression[1:]]
    if kind == "then":
        parts = parts[::-1]
    return (kind,) + tuple(parts)


def lets(atom, step):
    """Whether a word, back or any goes by a step."""
    if atom[0] == "any":
        return True
    return step == (atom[1], ALONG if atom[0] == "word" else AGAINST)


def passes_test(sign, worth, found):
    """Whether a worth that is found is less than, equal to, or greater than the one that a node asks for."""
    if sign == "<":
        return found < worth
    return found == worth if sign == "=" else found > worth


def stretches(expression, graph, path):
    """The ascending list of all stretches of places that an expression matches."""
    return [(i, j) for i, row in enumerate(rows_of(expression, graph, path)) for j in bits_of(row)]


def matches(expression, graph, path):
    """Whether an expression matches the stretch from the first to the last place."""
    rows = rows_of(expression, graph, path)
    return rows[0] >> (len(rows) - 1) & 1 == 1


def rows_of(expression, graph, path):
    """For each place the places up to which the expression matches, as bits of a number."""
    need_expression(expression)
    need_path(graph, path)
    return matched(expression, [worth_there(graph, name) for name in path[::2]], path[1::2])


def bits_of(row):
    """The ascending list of the bits that are set."""
    found = []
    while row:
        low = row & -row
        found.append(low.bit_length() - 1)
        row = row - low
    return found


def matched(expression, worths, steps):
    kind = expression[0]
    if is_atom(expression):
        return [1 << (i + 1) if lets(expression, step) else 0 for i, step in enumerate(steps)] + [0]
    if kind == "here":
        return nothing_gone(len(worths))
    if kind == "node":
        return [1 << i if passes_test(expression[1], expression[2], worth) else 0 for i, worth in enumerate(worths)]
    if kind == "times":
        return repeated(matched(expression[3], worths, steps), expression[1], expression[2])
    parts = [matched(part, worths, steps) for part in expression[1:]]
    if kind == "then":
        return one_then_other(parts[0], parts[1])
    if kind == "or":
        return either(parts[0], parts[1])
    if kind == "maybe":
        return either(nothing_gone(len(worths)), parts[0])
    starred = any_times(parts[0])
    return starred if kind == "star" else one_then_other(parts[0], starred)


def nothing_gone(many):
    """The rows that match where nothing is gone."""
    return [1 << i for i in range(many)]


def either(one, other):
    return [row | more for row, more in zip(one, other)]


def one_then_other(one, other):
    found = []
    for row in one:
        reached = 0
        for m in bits_of(row):
            reached = reached | other[m]
        found.append(reached)
    return found


def any_times(rows):
    """The rows of a star.

    No stretch goes back, so from the last place on all that can be reached from further places is
    known; what a place already has, it has with all that can be reached from there.
    """
    found = [1 << i for i in range(len(rows))]
    for i in reversed(range(len(rows))):
        rest = rows[i] & ~found[i]
        while rest:
            m = (rest & -rest).bit_length() - 1
            found[i] = found[i] | found[m]
            rest = rest & ~found[i]
    return found


def repeated(rows, least, most):
    """The rows of times."""
    found = [0 for _ in rows]
    times = nothing_gone(len(rows))
    for k in range(most + 1):
        if k >= least:
            found = either(found, times)
        times = one_then_other(times, rows)
    return found
