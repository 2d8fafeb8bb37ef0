"""Graphs, paths and expressions for the tests, drawn and plain."""

from wholeways.graph import Graph

TOP = 10 ** 18
NAMES = ("aaa", "abc", "bbb", "mno", "xyz", "zzz")
WORDS = ("aa", "ab", "xy", "zz")
SIGNS = ("<", "=", ">")


def drawn_graph(draw, names=NAMES, words=WORDS[:3], worths=(-TOP, -1, 0, 1, 2, 3, TOP), chance=0.3):
    """Some nodes and ties, loops and several ties between two nodes among them."""
    there = [name for name in names if draw.random() < 0.8]
    nodes = tuple((name, draw.choice(worths)) for name in there)
    ties = tuple(((one, word, other), draw.choice((0, 1, 2, 5, 10 ** 9)))
                 for one in there for word in words for other in there if draw.random() < chance)
    return Graph(nodes, ties)


def plain_worths(graph):
    return dict(graph.points)


def plain_weight(graph, name, step, other):
    """The weight of the tie along or against which a step leads from a node to another, None without one."""
    word, way = step
    return dict(graph.links).get((name, word, other) if way == 1 else (other, word, name))


def plain_steps(graph, name):
    """All pairs (step, other name) that can be gone from a node."""
    found = []
    for (first, word, second), _ in graph.links:
        if first == name:
            found.append(((word, 1), second))
        if second == name:
            found.append(((word, -1), first))
    return sorted(found)


def drawn_path(draw, graph, many):
    """A path of at most so many steps; fewer where one can't go on."""
    names = [name for name, _ in graph.points]
    if not names:
        return None
    path = [draw.choice(names)]
    for _ in range(many):
        steps = plain_steps(graph, path[-1])
        if not steps:
            break
        step, other = draw.choice(steps)
        path += [step, other]
    return tuple(path)


def drawn_expression(draw, deep, words=WORDS[:3], worths=(-TOP, 0, 1, 2, TOP)):
    """An expression nested at most so deep, all kinds alike."""
    if deep == 1 or draw.random() < 0.1:
        kind = draw.choice(("word", "word", "back", "any", "here", "node", "node"))
    else:
        kind = draw.choice(("then", "then", "or", "star", "plus", "maybe", "times"))
    if kind in ("word", "back"):
        return (kind, draw.choice(words))
    if kind in ("any", "here"):
        return (kind,)
    if kind == "node":
        return (kind, draw.choice(SIGNS), draw.choice(worths))
    if kind == "times":
        most = draw.choice((1, 1, 2, 2, 3))
        return (kind, draw.randrange(most + 1), most, drawn_expression(draw, deep - 1, words, worths))
    return (kind, *[drawn_expression(draw, deep - 1, words, worths) for _ in range(2 if kind in ("then", "or") else 1)])


def plain_size(expression):
    if expression[0] in ("then", "or"):
        return plain_size(expression[1]) + plain_size(expression[2])
    if expression[0] in ("star", "plus", "maybe"):
        return plain_size(expression[1])
    if expression[0] == "times":
        return expression[2] * plain_size(expression[3])
    return 1


def plain_matches(expression, graph, path):
    """The set of the stretches that an expression matches, word by word of 13.3."""
    worths, many = plain_worths(graph), len(path) // 2 + 1
    kind = expression[0]
    here = {(i, i) for i in range(many)}
    if kind in ("word", "back", "any"):
        way = 1 if kind == "word" else -1
        return {(i, i + 1) for i in range(many - 1) if kind == "any" or path[2 * i + 1] == (expression[1], way)}
    if kind == "here":
        return here
    if kind == "node":
        test = {"<": lambda x: x < expression[2], "=": lambda x: x == expression[2], ">": lambda x: x > expression[2]}[expression[1]]
        return {(i, i) for i in range(many) if test(worths[path[2 * i]])}
    if kind == "times":
        one, found, row = plain_matches(expression[3], graph, path), set(), here
        for k in range(expression[2] + 1):
            if k >= expression[1]:
                found |= row
            row = joined(row, one)
        return found
    parts = [plain_matches(part, graph, path) for part in expression[1:]]
    if kind == "then":
        return joined(*parts)
    if kind == "or":
        return parts[0] | parts[1]
    if kind == "maybe":
        return here | parts[0]
    row = here if kind == "star" else parts[0]
    while not joined(row, parts[0]) <= row:
        row = row | joined(row, parts[0])
    return row


def joined(one, other):
    return {(i, j) for i, m in one for k, j in other if m == k}
