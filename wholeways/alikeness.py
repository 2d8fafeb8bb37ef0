"""Whether two expressions match the same paths on all graphs, with tables and partings as papers."""

from wholeways.automata import automaton
from wholeways.errors import TooMany
from wholeways.graph import Graph
from wholeways.kinds import is_ascending, is_lot, is_pair
from wholeways.paths import ALONG, is_path
from wholeways.sidewalks import BEGINNING, SideBySide
from wholeways.walkers import bits_of_lot, is_matched, lot_of_bits

MOST_PAIRS = 4000
LETTERS = "abcdefghijklmnopqrstuvwxyz"


def sides_of(one, other):
    """Both automata, to be walked side by side."""
    return SideBySide(automaton(one), automaton(other))


class Walk:
    """What was met, level by level, until a level parts them, or nothing new is met."""

    def __init__(self, sides):
        self._sides = sides
        # from each pair that was met to the triple (pair ahead, worth, step) by which it was met first
        self._links = {BEGINNING: None}
        self._steps = 0
        # the pair of the last level that parts them, and the worth by which it does
        self._apart = None
        level = [BEGINNING]
        while level and self._apart is None:
            self._look_at(level)
            if self._apart is None:
                if len(self._links) > MOST_PAIRS:
                    raise TooMany(MOST_PAIRS)
                level = self._next_level(level)

    def _look_at(self, level):
        for pair in level:
            worth = self._sides.worth_apart(pair)
            if worth is not None and self._apart is None:
                self._apart = (pair, worth)

    def _next_level(self, level):
        found = []
        for pair in level:
            for other, worth, step in self._sides.led_to(pair):
                if other not in self._links:
                    self._links[other] = (pair, worth, step)
                    found.append(other)
        self._steps += 1
        return found

    def is_alike(self):
        """Whether nothing parts them."""
        return self._apart is None

    def least_steps(self):
        """How many steps the shortest paths have that part them."""
        return self._steps

    def pairs(self):
        """The ascending tuple of all pairs that were met, as pairs of lots."""
        return tuple(sorted([(lot_of_bits(one), lot_of_bits(other)) for one, other in self._links]))

    def way(self):
        """The worths and the steps of a path that parts them, the worth of its last node standing last."""
        pair, worth = self._apart
        worths = [worth]
        steps = []
        link = self._links[pair]
        while link is not None:
            ahead, worth, step = link
            worths.append(worth)
            steps.append(step)
            link = self._links[ahead]
        return (worths[::-1], steps[::-1])


def node_name(index):
    """The name of a node by its number; those of greater numbers stand behind."""
    return LETTERS[index // 676] + LETTERS[index // 26 % 26] + LETTERS[index % 26]


def row_of(worths, steps):
    """The pair of a graph that is one path of unlike nodes, and this path."""
    names = [node_name(index) for index in range(len(worths))]
    path = [names[0]]
    ties = []
    for index, step in enumerate(steps):
        word, way = step
        path.extend([step, names[index + 1]])
        ahead, behind = names[index], names[index + 1]
        ties.append((((ahead, word, behind) if way == ALONG else (behind, word, ahead)), 0))
    return (Graph(tuple(list(zip(names, worths))), tuple(sorted(ties))), tuple(path))


def parting(one, other):
    """None if they are alike, else a pair of a graph and a path of as few steps as can be that just one matches."""
    walk = Walk(sides_of(one, other))
    if walk.is_alike():
        return None
    worths, steps = walk.way()
    return row_of(worths, steps)


def is_parting(one, other, thing):
    """Whether a thing is a pair of a graph and such a path of it."""
    sides = sides_of(one, other)
    walk = Walk(sides)
    if walk.is_alike() or not is_pair(thing) or not isinstance(thing[0], Graph) or not is_path(thing[0], thing[1]):
        return False
    graph, path = thing
    if len(path[1::2]) != walk.least_steps():
        return False
    first, second = sides.walkers()
    return is_matched(first, graph, path) != is_matched(second, graph, path)


def alike_table(one, other):
    """The ascending tuple of all pairs that are met if they are alike, None if they are not."""
    walk = Walk(sides_of(one, other))
    return walk.pairs() if walk.is_alike() else None


def is_alike_table(one, other, thing):
    """Whether a thing is an ascending tuple of pairs that has the beginning, is closed, and parts them nowhere."""
    sides = sides_of(one, other)
    if not isinstance(thing, tuple) or not all([is_pair_of_lots(sides, pair) for pair in thing]):
        return False
    if not is_ascending(thing):
        return False
    inside = {(bits_of_lot(first), bits_of_lot(second)): True for first, second in thing}
    if BEGINNING not in inside:
        return False
    for pair in inside:
        if sides.worth_apart(pair) is not None:
            return False
        if not all([other_pair in inside for other_pair, _, _ in sides.led_to(pair)]):
            return False
    return True


def is_pair_of_lots(sides, thing):
    """Whether a thing is a pair of lots of states of the one automaton and the other one."""
    if not is_pair(thing) or not is_lot(thing[0]) or not is_lot(thing[1]):
        return False
    first, second = sides.walkers()
    known = [state < first.many_states() for state in thing[0]] + [state < second.many_states() for state in thing[1]]
    return all(known)
