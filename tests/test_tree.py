"""Promises 5.1 to 5.3: an ordered tree in the pages of a batch."""

from wholeways.errors import NoMark, NoRoom, NoSpot, NotThere, StoreError
from wholeways.nodes import is_spot
from wholeways.tree import all_spots, depth, first_from, is_sound, look, pages_of, put, take, walk

from tests.helping import Case, PlainBatch, drawn, odd_things

TOP = 10 ** 18


def spot_of(k):
    """Spots ascend with k, several of them with one key."""
    return ("k" + chr(97 + k // 260 % 26) + chr(97 + k // 10 % 26), k % 10 - 5)


def tree_of(many):
    """A tree of so many spots, their marks being their places, every fifth one None."""
    batch = PlainBatch()
    for k in range(many):
        put(batch, spot_of(k), None if k % 5 == 0 else k)
    return batch


def as_list(plain):
    return [(*spot, plain[spot]) for spot in sorted(plain)]


def deepest(many):
    """The greatest d with 2 * 4 ** (d - 1) up to many, for d above 1: how deep a tree can be."""
    most = 1
    while 2 * 4 ** most <= many:
        most += 1
    return most if many else 0


WRONG_SPOTS = odd_things() + [("a",), ["a", 1], ("a", 1, 1), ("a", True), ("a", "1"), ("a", None), ("a", TOP + 1), ("a", -TOP - 1),
                              ("", 1), ("A", 1), ("a" * 13, 1), ("a.", 1), (1, "a"), (b"a", 1), (None, 1), ("a", (1,)), (1, 1),
                              {"a": 1}]
WRONG_MARKS = [thing for thing in odd_things() if thing is not None and thing != -1] + [TOP + 1, -TOP - 1, "1", (1,)]


class Checked(Case):
    """Holds a tree against a plain sorted list."""

    def held_against(self, batch, plain):
        self.same(is_sound(batch), True)
        self.assertEqual(all_spots(batch), as_list(plain))
        self.assertEqual(pages_of(batch), batch.held())
        self.assertLessEqual(depth(batch), deepest(len(plain)))
        if len(plain) > 8:
            self.assertGreaterEqual(8 ** depth(batch), len(plain))

    def asked(self, draw, batch, plain, spot):
        """Looks, walks and seeks around a spot."""
        self.same(look(batch, spot), (True, plain[spot]) if spot in plain else (False, None))
        further = [row for row in as_list(plain) if row[:2] >= spot]
        self.same(first_from(batch, spot), further[0] if further else None)
        other = spot_of(draw.randrange(300))
        self.same(walk(batch, spot, other), [row for row in as_list(plain) if spot <= row[:2] < other])

    def done(self, batch, plain, spot, mark, puts):
        if puts:
            self.same(put(batch, spot, mark), None)
            plain[spot] = mark
        elif spot in plain:
            self.same(take(batch, spot), None)
            del plain[spot]
        else:
            state = batch.state()
            self.raises(NotThere, take, batch, spot)
            self.assertEqual(batch.state(), state)


class Rows(Checked):
    def test_ascending_then_ascending(self):
        self.row(range(200), range(200))

    def test_ascending_then_descending(self):
        self.row(range(200), reversed(range(200)))

    def test_descending_then_ascending(self):
        self.row(reversed(range(200)), range(200))

    def test_descending_then_from_the_middle(self):
        self.row(reversed(range(200)), sorted(range(200), key=lambda k: abs(k - 100)))

    def test_ends_towards_the_middle(self):
        self.row(range(200), sorted(range(200), key=lambda k: -abs(k - 100)))

    def row(self, puts, takes):
        batch, plain, draw = PlainBatch(), {}, drawn(1)
        for k in puts:
            self.done(batch, plain, spot_of(k), k, True)
            self.held_against(batch, plain)
            self.asked(draw, batch, plain, spot_of(k))
        self.assertGreaterEqual(depth(batch), 3)
        for k in takes:
            self.done(batch, plain, spot_of(k), None, False)
            self.held_against(batch, plain)
            self.asked(draw, batch, plain, spot_of(k))
        self.same((batch.root(), batch.held(), depth(batch), pages_of(batch), all_spots(batch)), (0, (), 0, (), []))

    def test_drawn(self):
        for seed in range(6):
            draw = drawn(seed)
            batch, plain = PlainBatch(), {}
            for turn in range(700):
                spot = spot_of(draw.randrange(60 if seed % 2 else 260))
                if draw.random() < 0.5 and plain and seed > 2:
                    spot = draw.choice(sorted(plain))
                mark = draw.choice((None, 0, 1, -TOP, TOP, turn))
                self.done(batch, plain, spot, mark, draw.random() < (0.7 if turn // 150 % 2 == 0 else 0.3))
                self.held_against(batch, plain)
                self.asked(draw, batch, plain, spot_of(draw.randrange(260)))
            for spot in sorted(plain, key=lambda spot: draw.random()):
                self.done(batch, plain, spot, None, False)
                self.held_against(batch, plain)
            self.assertEqual(batch.held(), ())

    def test_a_large_one(self):
        batch, draw = tree_of(1500), drawn(9)
        plain = {spot_of(k): None if k % 5 == 0 else k for k in range(1500)}
        self.held_against(batch, plain)
        for spot in sorted(plain, key=lambda spot: draw.random())[:1400]:
            take(batch, spot)
            del plain[spot]
        self.held_against(batch, plain)


class Pages(Checked):
    def test_a_leaf_and_its_items(self):
        batch = PlainBatch()
        put(batch, ("b", -TOP), None)
        put(batch, ("a" * 12, TOP), -TOP)
        put(batch, ("b", -TOP + 1), 0)
        self.same(batch.get(batch.root()), ("leaf", "a" * 12, TOP, 1, -TOP, "b", -TOP, 0, 0, "b", -TOP + 1, 1, 0))
        put(batch, ("b", -TOP), 7)
        put(batch, ("b", -TOP + 1), None)
        self.same(batch.get(batch.root()), ("leaf", "a" * 12, TOP, 1, -TOP, "b", -TOP, 1, 7, "b", -TOP + 1, 0, 0))

    def leaves(self, batch):
        return [len(batch.get(page)) // 4 for page in pages_of(batch) if batch.get(page)[0] == "leaf"]

    def test_a_leaf_is_parted_into_four_and_the_others(self):
        batch = tree_of(8)
        self.same((len(pages_of(batch)), depth(batch)), (1, 1))
        put(batch, spot_of(8), 8)
        self.same((len(pages_of(batch)), depth(batch)), (3, 2))
        items = batch.get(batch.root())
        left, right = batch.get(items[1]), batch.get(items[4])
        self.same((items[0], len(items), len(left), len(right)), ("inner", 5, 17, 21))
        self.same(left[1:3], spot_of(0))
        self.same(right[1:3], spot_of(4))

    def test_an_inner_page_is_parted_likewise(self):
        batch = PlainBatch()
        for k in range(36):
            put(batch, spot_of(k), k)
        self.same(depth(batch), 2)
        self.same(len(batch.get(batch.root())), 2 + 3 * 7)
        for k in range(36, 40):
            put(batch, spot_of(k), k)
        self.same(depth(batch), 3)
        top = batch.get(batch.root())
        self.same((top[0], len(top)), ("inner", 5))
        self.same((len(batch.get(top[1])), len(batch.get(top[4]))), (2 + 3 * 3, 2 + 3 * 4))
        self.same(top[2:4], spot_of(16))

    def test_filled_up_from_the_left_then_the_right(self):
        batch = PlainBatch()
        for k in range(0, 30, 2):
            put(batch, spot_of(k), k)
        root = batch.get(batch.root())
        self.same([len(batch.get(page)) // 4 for page in (root[1], root[4], root[7])], [4, 4, 7])
        put(batch, spot_of(1), 1)
        take(batch, spot_of(8))
        root = batch.get(batch.root())
        self.same([len(batch.get(page)) // 4 for page in (root[1], root[4], root[7])], [4, 4, 7])
        self.same(batch.get(root[4])[1:3], spot_of(6))
        take(batch, spot_of(10))
        root = batch.get(batch.root())
        self.same([len(batch.get(page)) // 4 for page in (root[1], root[4], root[7])], [4, 4, 6])
        self.same(batch.get(root[4])[13:15], spot_of(16))
        self.same(batch.given, [])

    def test_joined_with_the_left_into_the_left_page(self):
        batch = tree_of(13)
        put(batch, spot_of(20), 1)
        for k in (20, 12):
            take(batch, spot_of(k))
        root = batch.get(batch.root())
        pages = (root[1], root[4], root[7])
        self.same(self.leaves(batch), [4, 4, 4])
        take(batch, spot_of(5))
        self.same(batch.given, [pages[1]])
        self.same(batch.get(batch.root())[1], pages[0])
        self.same([len(batch.get(page)) // 4 for page in (pages[0], pages[2])], [7, 4])

    def test_the_first_is_joined_with_the_right(self):
        batch = tree_of(9)
        take(batch, spot_of(8))
        root, items = batch.root(), batch.get(batch.root())
        take(batch, spot_of(2))
        self.same(sorted(batch.given), sorted([items[4], root]))
        self.same((batch.root(), depth(batch)), (items[1], 1))
        self.same(len(batch.get(items[1])) // 4, 7)

    def test_the_last_leaf_is_given_back(self):
        batch = PlainBatch()
        put(batch, ("a", 1), 1)
        page = batch.root()
        take(batch, ("a", 1))
        self.same((batch.root(), batch.given), (0, [page]))
        put(batch, ("a", 1), None)
        self.same((batch.root(), all_spots(batch)), (page, [("a", 1, None)]))

    def test_other_pages_stay(self):
        batch = PlainBatch()
        other = batch.take_page()
        batch.put(other, ("x", 1))
        for k in range(60):
            put(batch, spot_of(k), k)
        self.same(is_sound(batch), True)
        self.same(pages_of(batch), tuple(page for page in batch.held() if page != other))
        for k in range(60):
            take(batch, spot_of(k))
        self.same((batch.held(), batch.get(other)), ((other,), ("x", 1)))


class Asking(Checked):
    def test_empty(self):
        batch = PlainBatch()
        self.same(look(batch, ("a", 1)), (False, None))
        self.same((first_from(batch, ("a", 1)), walk(batch, ("a", 1), ("b", 1)), all_spots(batch)), (None, [], []))
        self.same((depth(batch), pages_of(batch), is_sound(batch)), (0, (), True))

    def test_a_mark_of_none_is_there(self):
        batch = tree_of(1)
        self.same(look(batch, spot_of(0)), (True, None))
        self.same(first_from(batch, ("a", -TOP)), (*spot_of(0), None))

    def test_walk_has_the_low_one_and_not_the_high_one(self):
        batch = tree_of(100)
        self.same([row[:2] for row in walk(batch, spot_of(7), spot_of(9))], [spot_of(7), spot_of(8)])
        self.same(walk(batch, spot_of(9), spot_of(9)), [])
        self.same(walk(batch, spot_of(9), spot_of(7)), [])
        self.assertEqual(walk(batch, ("a", -TOP), ("z", TOP)), all_spots(batch))

    def test_lists_are_new(self):
        batch = tree_of(30)
        for found in (all_spots(batch), walk(batch, ("a", 0), ("z", 0))):
            found.clear()
        self.same(len(all_spots(batch)), 30)
        self.assertIsInstance(pages_of(batch), tuple)

    def test_asking_changes_nothing(self):
        batch = tree_of(100)
        state = batch.state()
        for k in range(0, 110, 3):
            look(batch, spot_of(k))
            first_from(batch, spot_of(k))
            walk(batch, spot_of(k), spot_of(50))
        all_spots(batch), depth(batch), pages_of(batch), is_sound(batch)
        self.assertEqual(batch.state(), state)


class Wrong(Checked):
    def test_no_spot(self):
        batch = tree_of(30)
        state = batch.state()
        for thing in WRONG_SPOTS:
            self.raises(NoSpot, look, batch, thing)
            self.raises(NoSpot, put, batch, thing, 1)
            self.raises(NoSpot, put, batch, thing, "no mark")
            self.raises(NoSpot, take, batch, thing)
            self.raises(NoSpot, first_from, batch, thing)
            self.raises(NoSpot, walk, batch, thing, ("a", 1))
            self.raises(NoSpot, walk, batch, ("a", 1), thing)
            self.raises(NoSpot, look, PlainBatch(), thing)
            self.raises(NoSpot, take, PlainBatch(), thing)
        self.assertEqual(batch.state(), state)

    def test_no_mark(self):
        batch = tree_of(30)
        state = batch.state()
        for thing in WRONG_MARKS:
            self.raises(NoMark, put, batch, ("a", 1), thing)
            self.raises(NoMark, put, batch, spot_of(3), thing)
            self.raises(NoMark, put, PlainBatch(1), ("a", 1), thing)
        self.assertEqual(batch.state(), state)

    def test_not_there(self):
        batch = tree_of(30)
        state = batch.state()
        for spot in (("a", 1), ("z", 1), spot_of(30), (spot_of(3)[0], 9)):
            self.raises(NotThere, take, batch, spot)
        self.raises(NotThere, take, PlainBatch(), ("a", 1))
        self.assertEqual(batch.state(), state)

    def test_what_take_page_raises(self):
        self.raises(NoRoom, put, PlainBatch(1), ("a", 1), 1)
        for many in range(2, 40):
            batch, k = PlainBatch(many), 0
            with self.assertRaises(NoRoom):
                while True:
                    put(batch, spot_of(k), k)
                    k += 1
            self.assertEqual(k, 8 if many < 4 else 4 * (k // 4))
            self.assertGreaterEqual(k, 8)

    def test_full_pages_take_replaced_marks(self):
        batch = PlainBatch(2)
        for k in range(8):
            put(batch, spot_of(k), k)
        put(batch, spot_of(5), None)
        self.raises(NoRoom, put, batch, spot_of(8), 8)


class Soundness(Checked):
    def setUp(self):
        self.batch = tree_of(200)
        self.assertEqual(depth(self.batch), 4)
        self.root = self.batch.root()
        self.inner = [page for page in pages_of(self.batch) if self.batch.get(page)[0] == "inner" and page != self.root]
        self.leaves = [page for page in pages_of(self.batch) if self.batch.get(page)[0] == "leaf"]
        self.low = [page for page in self.inner if self.batch.get(page)[1] in self.leaves]

    def with_items(self, page, items):
        batch = self.batch.twin()
        batch.pages[page] = items
        return is_sound(batch)

    def test_as_it_is(self):
        self.same(is_sound(self.batch), True)
        for page in pages_of(self.batch):
            self.same(self.with_items(page, self.batch.get(page)), True)

    def test_each_item_of_each_page_changed(self):
        """What is put in place of an item is told by a plain judge to spoil the tree, or not to."""
        things = ["", "a", "z", "ka", "A", "leaf", "free", -1, 0, 1, 2, 3, 7, TOP, TOP + 1, 599, 600, 10 ** 30, True, None, ("a",)]
        draw, sound = drawn(1), 0
        for page in [self.root] + self.inner + draw.sample(self.leaves, 8):
            items = self.batch.get(page)
            for place in range(len(items)):
                for thing in things:
                    spoiled = (*items[:place], thing, *items[place + 1:])
                    batch = self.batch.twin()
                    batch.pages[page] = spoiled
                    self.same(is_sound(batch), plain_sound(batch))
                    sound += is_sound(batch)
        self.assertGreater(sound, 100)

    def test_left_out_of_its_order(self):
        for page in self.leaves:
            items = self.batch.get(page)
            self.same(self.with_items(page, ("leaf", *items[5:9], *items[1:5], *items[9:])), False)
            self.same(self.with_items(page, ("leaf", *items[1:5], *items[1:5], *items[9:])), False)

    def test_fences(self):
        for page in [self.root] + self.inner:
            items = self.batch.get(page)
            for k in range(2, len(items), 3):
                fence = (items[k], items[k + 1])
                first = min(row[:2] for row in self.beneath(items[k + 2]))
                last = max(row[:2] for row in self.beneath(items[k - 1]))
                self.assertEqual(fence, first)
                self.same(self.with_items(page, (*items[:k], *last, *items[k + 2:])), False)
                self.same(self.with_items(page, (*items[:k], first[0], first[1] + 1, *items[k + 2:])), False)
                wide = last[:1] + (last[1] + 1,)
                self.same(self.with_items(page, (*items[:k], *wide, *items[k + 2:])), True)

    def beneath(self, page):
        batch = self.batch.twin()
        batch.top = page
        return all_spots(batch)

    def test_a_spot_beneath_another_ancestor(self):
        """Bounds hold all the way down, for first children, too."""
        for page in self.leaves[1:]:
            items = self.batch.get(page)
            self.same(self.with_items(page, ("leaf", "a", 0, 1, 1, *items[5:])), False)
        for page in self.leaves[:-1]:
            items = self.batch.get(page)
            self.same(self.with_items(page, (*items[:-4], "z", 0, 1, 1)), page == self.last_leaf())

    def last_leaf(self):
        page = self.root
        while self.batch.get(page)[0] == "inner":
            page = self.batch.get(page)[-1]
        return page

    def test_a_page_of_another_kind(self):
        for page in pages_of(self.batch):
            for items in [("new",), ("free", -1), ("free", 3), ("x",), (), ("leaf",), ("inner",), ("inner", 1), (1, 2), ("",)]:
                self.same(self.with_items(page, items), False)

    def test_a_page_twice(self):
        items = self.batch.get(self.low[0])
        self.same(self.with_items(self.low[0], (*items[:4], items[1], *items[5:])), False)
        root = self.batch.get(self.root)
        self.same(self.with_items(self.root, (*root[:-1], root[1])), False)
        self.same(self.with_items(self.low[0], (items[0], self.root, *items[2:])), False)
        self.same(self.with_items(self.root, (root[0], self.root, *root[2:])), False)

    def test_children_that_are_no_pages(self):
        for page in (self.root, self.low[0]):
            items = self.batch.get(page)
            for child in (0, -1, 10 ** 30, self.batch.high, "", "a"):
                self.same(self.with_items(page, (items[0], child, *items[2:])), False)
                self.same(self.with_items(page, (*items[:-1], child)), False)

    def test_too_few_or_too_many(self):
        page = self.leaves[0]
        items = self.batch.get(page)
        for many in range(9):
            told = self.with_items(page, ("leaf", *[x for k in range(many) for x in ("ka", k - 20, 1, k)]))
            self.same(told, 4 <= many)
        self.same(self.with_items(page, ("leaf", *[x for k in range(9) for x in ("ka", k - 20, 1, k)])), False)
        self.same(self.with_items(page, (*items, 0)), False)
        inner = self.batch.get(self.low[0])
        for many in range(len(inner)):
            self.same(self.with_items(self.low[0], inner[:many]), False)

    def test_counts_of_roots(self):
        for many in range(1, 9):
            self.same(is_sound(tree_of(many)), True)
        batch = PlainBatch()
        page = batch.take_page()
        batch.set_root(page)
        self.same(is_sound(batch), False)
        batch.put(page, ("leaf",))
        self.same(is_sound(batch), False)
        batch.put(page, ("leaf", *[x for k in range(9) for x in ("a", k, 1, k)]))
        self.same(is_sound(batch), False)
        batch = tree_of(9)
        items = batch.get(batch.root())
        batch.put(batch.root(), items[:2])
        self.same(is_sound(batch), False)

    def test_inner_pages_of_one_to_nine_children(self):
        for many in range(1, 10):
            batch = PlainBatch()
            top = batch.take_page()
            pages = [batch.take_page() for _ in range(many)]
            for at, page in enumerate(pages):
                batch.put(page, ("leaf", *[x for k in range(4) for x in ("a", at * 4 + k, 1, k)]))
            rows = [x for at, page in enumerate(pages) for x in ("a", at * 4, page)]
            batch.put(top, ("inner", *rows[2:]))
            batch.set_root(top)
            self.same(is_sound(batch), 2 <= many <= 8)

    def test_unequal_depth(self):
        low = self.low[0]
        above = [page for page in [self.root] + self.inner if low in self.batch.get(page)[1::3]][0]
        items = self.batch.get(above)
        leaf = self.batch.get(low)[1]
        self.same(self.with_items(above, tuple(leaf if x == low else x for x in items)), False)
        one, two = PlainBatch(), tree_of(9)
        one.pages, one.high = dict(two.pages), two.high
        one.set_root(two.root())
        items = one.get(one.root())
        further = one.take_page()
        one.put(further, ("inner", items[4], "zz", 0, items[4]))
        one.put(one.root(), (*items[:4], further))
        self.same(is_sound(one), False)

    def test_marks_and_spots_that_are_none(self):
        page = self.leaves[0]
        items = self.batch.get(page)
        for row in [("ka", -5, 0, 1), ("ka", -5, 2, 1), ("ka", -5, -1, 0), ("ka", -5, "", 0), ("ka", -5, 1, ""), ("ka", -5, 0, ""),
                    ("ka", -5, 1, TOP + 1), ("ka", -5, 1, -TOP - 1), ("ka", "", 1, 1), (5, -5, 1, 1), ("", -5, 1, 1),
                    ("ka", -TOP - 1, 1, 1)]:
            self.same(self.with_items(page, ("leaf", *row, *items[5:])), False)
        for row in [("ka", -5, 0, 0), ("ka", -5, 1, 0), ("ka", -5, 1, TOP), ("ka", -TOP, 1, -TOP)]:
            self.same(self.with_items(page, ("leaf", *row, *items[5:])), True)

    def test_a_root_that_is_none(self):
        batch = self.batch.twin()
        batch.top = 0
        self.same(is_sound(batch), True)
        batch.top = batch.take_page()
        self.same(is_sound(batch), False)
        batch.give_page(batch.top)
        self.same(is_sound(batch), False)

    def test_pages_beneath_themselves(self):
        batch = PlainBatch()
        page, other = batch.take_page(), batch.take_page()
        batch.set_root(page)
        for first, second in [(page, page), (other, other), (other, page)]:
            for child in (page, other):
                batch.put(page, ("inner", first, "b", 0, second, "c", 0, first, "d", 0, second))
                batch.put(other, ("inner", child, "b", 0, child, "c", 0, child, "d", 0, child))
                self.same(is_sound(batch), False)

    def test_inner_items_of_any_length(self):
        inner = max([self.batch.get(page) for page in self.inner], key=len)
        self.assertGreater(len(inner), 14)
        for page in self.inner:
            for many in range(len(inner)):
                # of whole rows, enough of them, a tree may be left that is sound
                if many % 3 != 2 or many < 11:
                    self.same(self.with_items(page, inner[:many]), False)
            for more in [(0,), ("a",), ("a", 1), ("a", 1, 0), ("zz", 1, 599)]:
                self.same(self.with_items(page, (*self.batch.get(page), *more)), False)

    def test_a_long_row_of_inner_pages(self):
        batch = PlainBatch()
        pages = [batch.take_page() for _ in range(590)]
        for at, page in enumerate(pages):
            child = pages[(at + 1) % len(pages)]
            batch.put(page, ("inner", child, "a", 1, 0, "a", 2, 0, "a", 3, 0))
        batch.set_root(pages[0])
        self.same(is_sound(batch), False)


def plain_sound(batch):
    """The rules of 5.1, straight down from the root."""
    if batch.root() == 0:
        return True
    met, depths, found = [], set(), []

    def is_whole(thing):
        return isinstance(thing, int) and not isinstance(thing, bool)

    def right(page, level, low, high):
        if not is_whole(page) or page in met or not 0 <= page < batch.high:
            return False
        met.append(page)
        kind, *rest = batch.get(page)
        if kind == "leaf":
            depths.add(level)
            rows = [rest[k:k + 4] for k in range(0, len(rest), 4)]
            if not (1 if level == 0 else 4) <= len(rows) <= 8 or len(rows[-1]) != 4:
                return False
            for key, number, sign, worth in rows:
                if not is_spot((key, number)) or not all(is_whole(x) for x in (sign, worth)):
                    return False
                if sign not in (0, 1) or (sign == 0 and worth != 0) or abs(worth) > TOP:
                    return False
                if (low and (key, number) < low) or (high and (key, number) >= high):
                    return False
                found.append((key, number))
            return True
        if kind != "inner":
            return False
        if not (2 if level == 0 else 4) <= (len(rest) + 2) // 3 <= 8 or len(rest) % 3 != 1:
            return False
        fences = [tuple(rest[k:k + 2]) for k in range(1, len(rest), 3)]
        if not all(is_spot(fence) for fence in fences):
            return False
        bounds = [low, *fences, high]
        return all(right(rest[3 * k], level + 1, bounds[k], bounds[k + 1]) for k in range(len(fences) + 1))

    if not right(batch.root(), 0, None, None):
        return False
    return len(depths) == 1 and found == sorted(set(found))


class Arguments(Checked):
    def test_no_other_error(self):
        batch = tree_of(20)
        for thing in odd_things():
            for function, things in [(look, (thing,)), (take, (thing,)), (first_from, (thing,)), (put, (thing, thing)),
                                     (put, (("a", 1), thing)), (walk, (thing, thing)), (walk, (("a", 1), thing))]:
                try:
                    function(batch.twin(), *things)
                except StoreError:
                    pass
