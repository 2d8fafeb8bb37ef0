"""Promises 1.1 and 1.2: the disk."""

from wholeways.disk import Disk
from wholeways.errors import BadDisk, NoBlock, NoContent, NoNumber, NothingWaits, Stopped, StoreError

from tests.helping import Case, deep, drawn, odd_things

TOP = 10 ** 30

WRONG_BLOCKS = odd_things() + [16, 17, -1, 10 ** 60, "0", (0,), [0]]


class PlainDisk:
    """What a disk is to tell, as a plain account: what lies, what waits in which order, what has reached it."""

    def __init__(self, blocks):
        self.lies = [()] * blocks
        self.waits = []
        self.many = 0
        self.left = None

    def reach(self, block):
        """Whether the eldest write of a block could reach the disk."""
        if self.left == 0:
            return False
        if self.left is not None:
            self.left -= 1
        place = [at for at, _ in self.waits].index(block)
        self.lies[block] = self.waits.pop(place)[1]
        self.many += 1
        return True

    def force(self, lot):
        for block in lot:
            while block in [at for at, _ in self.waits]:
                if not self.reach(block):
                    return False
        return True

    def read(self, block):
        return ([content for at, content in self.waits if at == block] or [self.lies[block]])[-1]

    def waiting(self):
        return {block: [at for at, _ in self.waits].count(block) for block, _ in self.waits}

    def cut(self):
        self.waits, self.left = [], None


class Held(Case):
    def alike(self, disk, plain):
        blocks = range(disk.blocks())
        self.assertEqual(disk.waiting(), plain.waiting())
        self.assertEqual([disk.read(block) for block in blocks], [plain.read(block) for block in blocks])
        self.assertEqual([disk.lying(block) for block in blocks], plain.lies)
        self.same(disk.reached(), plain.many)

    def stops(self, goes, method, *things):
        """The method raises Stopped exactly if the account says that the power ends."""
        if goes:
            self.same(method(*things), None)
        else:
            self.raises(Stopped, method, *things)


class Lives(Held):
    def test_deeds_held_against_an_account(self):
        for seed in range(12):
            draw = drawn(seed)
            disk, plain = Disk(16 + seed), PlainDisk(16 + seed)
            for turn in range(400):
                self.deed(draw, disk, plain, turn)
                self.alike(disk, plain)
                self.alike(disk.copy(), self.twin(plain))

    def twin(self, plain):
        other = PlainDisk(len(plain.lies))
        other.lies = list(plain.lies)
        return other

    def deed(self, draw, disk, plain, turn):
        block = draw.randrange(disk.blocks() // 2)
        kind = draw.random()
        if kind < 0.5:
            content = ("a" * draw.randrange(13), turn, draw.choice((TOP, -TOP)))[:draw.randrange(4)]
            self.same(disk.write(block, content), None)
            plain.waits.append((block, content))
        elif kind < 0.7:
            if block not in plain.waiting():
                self.raises(NothingWaits, disk.reach, block)
            else:
                self.stops(plain.reach(block), disk.reach, block)
        elif kind < 0.8:
            lot = tuple(at for at in range(disk.blocks()) if draw.random() < 0.2)
            self.stops(plain.force(lot), disk.force, lot)
        elif kind < 0.83:
            self.stops(plain.force(range(disk.blocks())), disk.calm)
        elif kind < 0.93:
            plain.left = draw.choice((None, 0, 1, 2, 3, 7))
            self.same(disk.power(plain.left), None)
        elif kind < 0.96:
            self.same(disk.cut(), None)
            plain.cut()


class Ordinary(Held):
    def test_a_new_one(self):
        for blocks in (16, 17, 600):
            disk = Disk(blocks)
            self.same((disk.blocks(), disk.reached(), disk.waiting()), (blocks, 0, {}))
            self.same([disk.lying(k) for k in range(blocks)] + [disk.read(k) for k in range(blocks)], [()] * 2 * blocks)

    def test_writes_of_one_block_in_their_order(self):
        disk = Disk(16)
        for k in range(4):
            disk.write(3, (k,))
        self.same((disk.read(3), disk.lying(3), disk.waiting()), ((3,), (), {3: 4}))
        for k in range(4):
            disk.reach(3)
            self.same((disk.read(3), disk.lying(3), disk.reached()), ((3,), (k,), k + 1))
        self.same(disk.waiting(), {})
        self.raises(NothingWaits, disk.reach, 3)

    def test_blocks_in_any_order(self):
        disk = Disk(16)
        disk.write(1, (1,))
        disk.write(2, (2,))
        disk.reach(2)
        disk.cut()
        self.same((disk.lying(1), disk.read(1), disk.lying(2)), ((), (), (2,)))

    def test_force_goes_block_by_block_ascending(self):
        for many in range(9):
            disk = Disk(16)
            for block in (9, 2, 5, 2, 9, 5, 7):
                disk.write(block, (block, len(disk.waiting()), disk.waiting().get(block, 0)))
            disk.power(many)
            if many < 6:
                self.raises(Stopped, disk.force, (2, 5, 9, 15))
            else:
                disk.force((2, 5, 9, 15))
            self.same(disk.reached(), min(many, 6))
            told = {2: 2, 5: 2, 7: 1, 9: 2}
            for block in (2, 2, 5, 5, 9, 9)[:many]:
                told[block] -= 1
            self.same(disk.waiting(), {block: told[block] for block in sorted(told) if told[block]})

    def test_power(self):
        disk = Disk(16)
        for k in range(10):
            disk.write(k, (k,))
        disk.power(3)
        for k in range(3):
            disk.reach(k)
        self.raises(Stopped, disk.reach, 3)
        self.raises(Stopped, disk.calm)
        self.raises(Stopped, disk.force, (3,))
        self.same((disk.force(()), disk.force((0, 1)), disk.reached()), (None, None, 3))
        self.same(disk.waiting(), {k: 1 for k in range(3, 10)})
        disk.power(None)
        disk.reach(3)
        disk.power(0)
        self.raises(Stopped, disk.reach, 4)
        disk.cut()
        self.same((disk.waiting(), disk.reached(), disk.read(9), disk.lying(2)), ({}, 4, (), (2,)))
        disk.write(9, (5,))
        disk.calm()
        self.same((disk.lying(9), disk.reached()), ((5,), 5))

    def test_a_write_needs_no_power(self):
        disk = Disk(16)
        disk.power(0)
        disk.write(0, (1,))
        self.same((disk.read(0), disk.lying(0)), ((1,), ()))
        self.raises(Stopped, disk.calm)

    def test_copy_goes_on_apart(self):
        disk = Disk(16)
        disk.write(0, (1,))
        disk.calm()
        disk.write(0, (2,))
        disk.power(0)
        other = disk.copy()
        self.same((other.blocks(), other.lying(0), other.read(0), other.waiting(), other.reached()), (16, (1,), (1,), {}, 0))
        other.write(0, (3,))
        other.calm()
        self.same((other.lying(0), other.reached(), disk.lying(0), disk.read(0), disk.reached()), ((3,), 1, (1,), (2,), 1))
        self.assertFalse(disk == disk.copy())

    def test_what_is_returned_is_new(self):
        disk = Disk(16)
        disk.write(0, (1,))
        disk.waiting().clear()
        self.same(disk.waiting(), {0: 1})


class Wrong(Held):
    def setUp(self):
        self.disk = Disk(16)
        self.disk.write(3, (3,))
        self.told = self.state()

    def tearDown(self):
        self.assertEqual(self.state(), self.told)

    def state(self):
        disk = self.disk
        return [disk.lying(k) for k in range(16)], [disk.read(k) for k in range(16)], disk.waiting(), disk.reached()

    def test_bad_disk(self):
        self.raises_all(BadDisk, Disk, odd_things() + [0, 15, 601, 10 ** 60, "16", (16,)])

    def test_no_block(self):
        for thing in WRONG_BLOCKS:
            self.raises(NoBlock, self.disk.write, thing, ())
            self.raises(NoBlock, self.disk.write, thing, None)
            for method in (self.disk.read, self.disk.lying, self.disk.reach):
                self.raises(NoBlock, method, thing)

    def test_no_lot_of_blocks(self):
        wrong = [thing for thing in odd_things()] + [0, (16,), (3, 16), (3, 3), (5, 3), (-1, 3), (3, "a"), (3, True), [3], {3: 1}, "3",
                                                     (3, None), (3, (4,)), (10 ** 60,)]
        self.raises_all(NoBlock, self.disk.force, wrong)

    def test_no_content(self):
        wrong = [[], None, "a", 5, {}, True, tuple([0] * 41), tuple([""] * 20000), ("a" * 13,), ("A",), ("a b",), ("a1",), ("\n",),
                 (TOP + 1,), (-TOP - 1,), (True,), (False,), (None,), ((),), ([],), (b"a",), ({},), (1, 2, [3]), deep(40), deep(40, list),
                 (deep(39),), range(3), object(), Disk(16), (Disk(16),)]
        for thing in wrong:
            self.raises(NoContent, self.disk.write, 3, thing)

    def test_contents(self):
        disk = Disk(16)
        for content in [(), ("",), ("a" * 12,), (TOP,), (-TOP,), tuple(range(40)), tuple(["z"] * 40), (0, "", -1)]:
            disk.write(0, content)
            self.same(disk.read(0), content)

    def test_no_number(self):
        self.raises_all(NoNumber, self.disk.power, [thing for thing in odd_things() if thing is not None] + [10 ** 6 + 1, "1", (1,), 10 ** 60])
        self.disk.power(10 ** 6)
        self.disk.power(0)
        self.disk.power(None)

    def test_nothing_waits_ahead_of_stopped(self):
        disk = Disk(16)
        disk.power(0)
        self.raises(NothingWaits, disk.reach, 4)
        disk.write(4, ())
        self.raises(Stopped, disk.reach, 4)
        self.raises(NoBlock, disk.reach, 16)
        self.raises(NoBlock, disk.force, (4, 16))

    def test_no_other_error(self):
        for thing in odd_things():
            disk = Disk(16)
            for method, things in [(disk.write, (thing, thing)), (disk.write, (0, thing)), (disk.read, (thing,)), (disk.reach, (thing,)),
                                   (disk.force, (thing,)), (disk.power, (thing,)), (disk.lying, (thing,)), (Disk, (thing,))]:
                try:
                    method(*things)
                except StoreError:
                    pass
