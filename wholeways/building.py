"""How the automaton of an expression is found from its parts."""

from wholeways.expressions import is_atom
from wholeways.ranges import ALL_ROW, both_row, either_row, row_of_test


class Part:
    """What an expression's part tells, by rows of stretches of worths.

    empty is the row by which it matches where nothing is gone, begins and closes the dicts from the states
    with which it can begin and end to their rows, inner the dict from pairs (state, next) to theirs.
    """

    def __init__(self, empty, begins, closes, inner):
        self.empty = empty
        self.begins = begins
        self.closes = closes
        self.inner = inner


class Builder:
    """Numbers the states from 1 on, as their atoms stand from left to right."""

    def __init__(self):
        self._atoms = []

    def numbered(self):
        """The tuple of the atoms that were met, state by state."""
        return tuple(self._atoms)

    def build(self, expression):
        """The part that an expression is, its atoms being the next ones."""
        kind = expression[0]
        if is_atom(expression):
            return self._atom(expression)
        if kind == "here":
            return Part(ALL_ROW, {}, {}, {})
        if kind == "node":
            return Part(row_of_test(expression[1], expression[2]), {}, {}, {})
        if kind == "times":
            return self._times(expression)
        one = self.build(expression[1])
        if kind == "then":
            return one_then_other(one, self.build(expression[2]))
        if kind == "or":
            return one_or_other(one, self.build(expression[2]))
        if kind == "maybe":
            return maybe(one)
        repeated = Part(one.empty, one.begins, one.closes, merged(one.inner, crossed(one.closes, one.begins)))
        return repeated if kind == "plus" else maybe(repeated)

    def _atom(self, atom):
        self._atoms.append(atom)
        state = len(self._atoms)
        return Part((), {state: ALL_ROW}, {state: ALL_ROW}, {})

    def _times(self, expression):
        """The part is written out most times, those beyond the least ones being maybe there."""
        _, least, most, repeated = expression
        found = Part(ALL_ROW, {}, {}, {})
        for k in range(most):
            one = self.build(repeated)
            found = one_then_other(found, one if k < least else maybe(one))
        return found


def maybe(one):
    return Part(ALL_ROW, one.begins, one.closes, one.inner)


def one_or_other(one, other):
    return Part(either_row(one.empty, other.empty), merged(one.begins, other.begins), merged(one.closes, other.closes),
                merged(one.inner, other.inner))


def one_then_other(one, other):
    inner = merged(merged(one.inner, other.inner), crossed(one.closes, other.begins))
    return Part(both_row(one.empty, other.empty), merged(one.begins, narrowed(other.begins, one.empty)),
                merged(other.closes, narrowed(one.closes, other.empty)), inner)


def merged(one, other):
    """The dict from all keys of two dicts to what is in a row of one of them."""
    found = {key: row for key, row in one.items()}
    for key, row in other.items():
        found[key] = either_row(found.get(key, ()), row)
    return found


def narrowed(rows, by):
    """The dict from those keys whose rows have worths in common with a row to what they have in common."""
    found = {key: both_row(row, by) for key, row in rows.items()}
    return {key: row for key, row in found.items() if len(row) > 0}


def crossed(closes, begins):
    """The moves from all states with which one part can end to those with which another one can begin."""
    found = {}
    for state, row in closes.items():
        for after, common in narrowed(begins, row).items():
            found[(state, after)] = common
    return found
