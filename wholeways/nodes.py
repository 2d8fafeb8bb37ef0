"""How the pages of a tree are written: leaves of spots and marks, inner pages of fences and children.

In memory both are lists of rows, pairs that ascend by their first part: (spot, mark) of a leaf,
(fence, page) of an inner page. The first child of an inner page has no fence of its own in its page;
where rows wander from page to page it is given the fence that the page itself has.
"""

from wholeways.kinds import GREATEST_WORTH, is_ascending, is_key, is_mark, is_number, is_within

LEAF = "leaf"
INNER = "inner"
MOST_ROWS = 8
LEAST_ROWS = 4
LEAST_CHILDREN_OF_ROOT = 2


def is_spot(thing):
    """Whether a thing is a pair of a key and an integer no greater than a worth can be."""
    if not isinstance(thing, tuple) or len(thing) != 2:
        return False
    return is_key(thing[0]) and is_within(thing[1], -GREATEST_WORTH, GREATEST_WORTH)


def rows_of(items, fence):
    """The rows of a page; fence is what an inner page's first child is given."""
    if items[0] == LEAF:
        return [((items[k], items[k + 1]), items[k + 3] if items[k + 2] else None)
                for k in range(1, len(items), 4)]
    rows = [(fence, items[1])]
    for k in range(2, len(items), 3):
        rows.append(((items[k], items[k + 1]), items[k + 2]))
    return rows


def items_of(kind, rows):
    """The items of a page of these rows; the first fence of an inner page is left out."""
    if kind == INNER:
        items = [INNER, rows[0][1]]
        for (key, number), page in rows[1:]:
            items.extend([key, number, page])
        return tuple(items)
    items = [LEAF]
    for (key, number), mark in rows:
        items.extend([key, number])
        items.extend([0, 0] if mark is None else [1, mark])
    return tuple(items)


def place_of(rows, spot):
    """Which child of an inner page the spot lies beneath: the last one whose fence is no greater."""
    place = 0
    for k in range(1, len(rows)):
        if rows[k][0] <= spot:
            place = k
    return place


def spot_place(rows, spot):
    """How many spots of a leaf are less than this one."""
    return len([row for row in rows if row[0] < spot])


def parted_children(rows, low, high):
    """Of an inner page the triples (page, low, high) of its children, with what bounds the spots beneath each."""
    fences = [low] + [fence for fence, _ in rows[1:]] + [high]
    return [(rows[k][1], fences[k], fences[k + 1]) for k in range(len(rows))]


def has_form(items, is_root):
    """Whether items are those of a leaf or an inner page by themselves, of as many rows as it may have."""
    if len(items) == 0 or not isinstance(items[0], str):
        return False
    if items[0] == LEAF:
        return has_leaf_form(items, 1 if is_root else LEAST_ROWS)
    if items[0] == INNER:
        return has_inner_form(items, LEAST_CHILDREN_OF_ROOT if is_root else LEAST_ROWS)
    return False


def has_leaf_form(items, least):
    if len(items) % 4 != 1 or not least <= len(items) // 4 <= MOST_ROWS:
        return False
    for k in range(1, len(items), 4):
        if not is_spot((items[k], items[k + 1])) or not is_written_mark(items[k + 2], items[k + 3]):
            return False
    return is_ascending([spot for spot, _ in rows_of(items, None)])


def is_written_mark(sign, worth):
    """Whether these are 1 and a worth, or 0 and 0 for None."""
    if is_within(sign, 1, 1):
        return worth is not None and is_mark(worth)
    return is_within(sign, 0, 0) and is_within(worth, 0, 0)


def has_inner_form(items, least):
    if len(items) % 3 != 2 or not least <= (len(items) + 1) // 3 <= MOST_ROWS:
        return False
    for k in range(2, len(items), 3):
        if not is_spot((items[k], items[k + 1])) or not is_number(items[k + 2]):
            return False
    return is_number(items[1])
