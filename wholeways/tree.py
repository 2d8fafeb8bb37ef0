"""An ordered tree in the pages of a batch: a map from spots to marks."""

from wholeways.errors import NoMark, NoPage, NoSpot, NotThere
from wholeways.kinds import is_mark
from wholeways.nodes import (INNER, LEAF, LEAST_ROWS, MOST_ROWS, has_form, is_spot, items_of, parted_children,
                             place_of, rows_of, spot_place)


def need_spot(spot):
    if not is_spot(spot):
        raise NoSpot()


def way_to_leaf(batch, spot):
    """Of a tree that is not empty the pairs (inner page, place of the child) on the way to a spot, and the leaf."""
    way = []
    page = batch.root()
    items = batch.get(page)
    while items[0] == INNER:
        rows = rows_of(items, None)
        place = place_of(rows, spot)
        way.append((page, place))
        page = rows[place][1]
        items = batch.get(page)
    return way, page


def look(batch, spot):
    """The pair (True, mark), or (False, None) where the spot is not there."""
    need_spot(spot)
    found = least_from(batch, spot)
    if found is None or found[0] != spot:
        return (False, None)
    return (True, found[1])


def first_from(batch, spot):
    """The triple (key, number, mark) of the least spot that is not less, or None."""
    need_spot(spot)
    found = least_from(batch, spot)
    if found is None:
        return None
    (key, number), mark = found
    return (key, number, mark)


def least_from(batch, spot):
    """The row (spot, mark) of the least spot that is not less, or None."""
    if batch.root() == 0:
        return None
    way, page = way_to_leaf(batch, spot)
    for row in rows_of(batch.get(page), None):
        if row[0] >= spot:
            return row
    for above, place in reversed(way):
        rows = rows_of(batch.get(above), None)
        if place + 1 < len(rows):
            return least_row(batch, rows[place + 1][1])
    return None


def least_row(batch, page):
    """The first row of the first leaf beneath a page."""
    rows = rows_of(batch.get(page), None)
    while batch.get(page)[0] == INNER:
        page = rows[0][1]
        rows = rows_of(batch.get(page), None)
    return rows[0]


def put(batch, spot, mark):
    """The spot has this mark now."""
    need_spot(spot)
    if not is_mark(mark):
        raise NoMark()
    if batch.root() == 0:
        page = batch.take_page()
        batch.put(page, items_of(LEAF, [(spot, mark)]))
        batch.set_root(page)
        return
    way, page = way_to_leaf(batch, spot)
    rows = rows_of(batch.get(page), None)
    place = spot_place(rows, spot)
    if place < len(rows) and rows[place][0] == spot:
        rows[place] = (spot, mark)
    else:
        rows.insert(place, (spot, mark))
    kind = LEAF
    while len(rows) > MOST_ROWS:
        fence, further = part_page(batch, page, kind, rows)
        if not way:
            raise_root(batch, page, fence, further)
            return
        kind = INNER
        page, place = way.pop()
        rows = rows_of(batch.get(page), None)
        rows.insert(place + 1, (fence, further))
    batch.put(page, items_of(kind, rows))


def part_page(batch, page, kind, rows):
    """The page keeps its first rows, a new one gets the others: the fence of the new page, and the page."""
    further = batch.take_page()
    batch.put(page, items_of(kind, rows[:LEAST_ROWS]))
    batch.put(further, items_of(kind, rows[LEAST_ROWS:]))
    return rows[LEAST_ROWS][0], further


def raise_root(batch, page, fence, further):
    """A root that is parted gets a new root above it."""
    top = batch.take_page()
    batch.put(top, items_of(INNER, [(None, page), (fence, further)]))
    batch.set_root(top)


def take(batch, spot):
    """The spot goes."""
    need_spot(spot)
    if not look(batch, spot)[0]:
        raise NotThere()
    way, page = way_to_leaf(batch, spot)
    rows = [row for row in rows_of(batch.get(page), None) if row[0] != spot]
    kind = LEAF
    while way and len(rows) < LEAST_ROWS:
        batch.put(page, items_of(kind, rows))
        above, place = way.pop()
        over = rows_of(batch.get(above), None)
        if not fill_up(batch, over, place):
            join_pages(batch, over, place)
        page, kind, rows = above, INNER, over
    if way or len(rows) > (0 if kind == LEAF else 1):
        batch.put(page, items_of(kind, rows))
        return
    batch.set_root(0 if kind == LEAF else rows[0][1])
    batch.give_page(page)


def fill_up(batch, over, place):
    """A neighbour of the child at a place, under the same parent, gives a row if it has some to spare.

    over are the rows of the parent; whether one did.
    """
    for from_left in (True, False):
        other = place - 1 if from_left else place + 1
        if 0 <= other < len(over) and can_spare(batch, over[other][1]):
            move_row(batch, over, min(place, other), from_left)
            return True
    return False


def can_spare(batch, page):
    return len(rows_of(batch.get(page), None)) > LEAST_ROWS


def rows_at(batch, over, place):
    """The kind and the rows of a child, its first one with the fence that the parent has for it."""
    fence, page = over[place]
    items = batch.get(page)
    return items[0], rows_of(items, fence)


def move_row(batch, over, place, to_right):
    """One row moves between the children at place and behind it; the fence between them becomes a new one."""
    kind, left = rows_at(batch, over, place)
    _, right = rows_at(batch, over, place + 1)
    if to_right:
        right.insert(0, left.pop())
    else:
        left.append(right.pop(0))
    batch.put(over[place][1], items_of(kind, left))
    batch.put(over[place + 1][1], items_of(kind, right))
    over[place + 1] = (right[0][0], over[place + 1][1])


def join_pages(batch, over, place):
    """The child at a place and its left neighbour, or else its right one, become one page, the left of both."""
    first = max(place - 1, 0)
    kind, left = rows_at(batch, over, first)
    _, right = rows_at(batch, over, first + 1)
    batch.put(over[first][1], items_of(kind, left + right))
    batch.give_page(over[first + 1][1])
    del over[first + 1]


def walk(batch, low, high):
    """The ascending list of the triples (key, number, mark) of all spots from low on and below high."""
    need_spot(low)
    need_spot(high)
    return [row for row in triples_between(batch, low, high) if low <= (row[0], row[1]) < high]


def all_spots(batch):
    """The ascending list of the triples (key, number, mark) of all spots."""
    return triples_between(batch, None, None)


def triples_between(batch, low, high):
    """The triples of all leaves in which a spot from low on and below high can stand."""
    leaves = levels_between(batch, low, high)[-1:]
    return [(spot[0], spot[1], mark) for pages in leaves for page in pages
            for spot, mark in rows_of(batch.get(page), None)]


def levels_between(batch, low, high):
    """Level by level, the root's first, the pages beneath which a spot from low on and below high can stand.

    low and high are None where nothing bounds.
    """
    level = [(batch.root(), None, None)]
    if batch.root() == 0 or (low is not None and low >= high):
        return []
    levels = []
    while level:
        levels.append([page for page, _, _ in level])
        further = []
        for page, begin, end in level:
            items = batch.get(page)
            if items[0] == INNER:
                further.extend(parted_children(rows_of(items, None), begin, end))
        level = [child for child in further if meets(child, low, high)]
    return levels


def meets(child, low, high):
    """Whether a spot from low on and below high can stand beneath a child, a triple (page, begin, end)."""
    _, begin, end = child
    if low is not None and end is not None and end <= low:
        return False
    return high is None or begin is None or begin < high


def depth(batch):
    """On how many pages the way to a leaf leads, 0 of an empty tree."""
    return len(levels_between(batch, None, None))


def pages_of(batch):
    """The lot of the pages of the tree."""
    return tuple(sorted([page for level in levels_between(batch, None, None) for page in level]))


def is_sound(batch):
    """Whether what the root leads to is a tree by all its rules."""
    if batch.root() == 0:
        return True
    level = [(batch.root(), None, None)]
    met = {}
    while level:
        further = []
        kinds = {}
        for page, low, high in level:
            items = items_there(batch, page)
            if page in met or not has_form(items, len(met) == 0):
                return False
            met[page] = True
            kinds[items[0]] = True
            if items[0] == INNER:
                further.extend(parted_children(rows_of(items, None), low, high))
            elif not lies_between(items, low, high):
                return False
        if len(kinds) > 1:
            return False
        level = further
    return True


def items_there(batch, page):
    """The items of a page, () for what is no page of the batch."""
    try:
        return batch.get(page)
    except NoPage:
        return ()


def lies_between(items, low, high):
    """Whether all spots of a leaf are from low on and below high, None where nothing bounds."""
    rows = rows_of(items, None)
    if low is not None and rows[0][0] < low:
        return False
    return high is None or rows[-1][0] < high
