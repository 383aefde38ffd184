"""Disks: promise [47]."""

import unittest

from telltrove.disk import Disk
from telltrove.errors import Cut

EMPTY = ((),) * 32


class Disks(unittest.TestCase):

    def test_empty(self):
        for disk in (Disk(), Disk(()), Disk(blocks=()), Disk((), None), Disk(EMPTY)):
            self.assertEqual(disk.blocks, EMPTY)

    def test_with_blocks(self):
        blocks = tuple((number, 255) for number in range(32))
        self.assertEqual(Disk(blocks).blocks, blocks)
        self.assertEqual(Disk(blocks=blocks, room=0).blocks, blocks)
        disk = Disk(blocks, 5)
        disk.write(3, (1,))
        self.assertEqual(disk.blocks, blocks[:3] + ((1,),) + blocks[4:])
        self.assertEqual(blocks[3], (3, 255))

    def test_each_block(self):
        for number in range(32):
            disk = Disk()
            self.assertIsNone(disk.write(number, (number, 0, 9)))
            self.assertEqual(disk.blocks, EMPTY[:number] + ((number, 0, 9),) + EMPTY[number + 1:])
        disk = Disk()
        long = tuple(range(250))
        disk.write(31, long)
        self.assertEqual(disk.blocks[31], long)
        disk.write(31, ())
        self.assertEqual(disk.blocks, EMPTY)

    def test_room(self):
        for disk in (Disk((), 2), Disk(room=2), Disk(blocks=EMPTY, room=2)):
            disk.write(0, (1,))
            # A write of the block that is there takes room like any other one.
            disk.write(0, (1,))
            for number, block in ((0, (1,)), (0, (2,)), (31, ())):
                for _ in range(2):
                    with self.assertRaises(Cut):
                        disk.write(number, block)
                    self.assertEqual(disk.blocks, ((1,),) + EMPTY[1:])
        disk = Disk(room=0)
        with self.assertRaises(Cut):
            disk.write(4, (1,))
        self.assertEqual(disk.blocks, EMPTY)

    def test_any_number_of_writes(self):
        for disk in (Disk(), Disk((), None), Disk(room=None), Disk(room=2000)):
            for at in range(2000):
                disk.write(at % 32, (at % 256,))
            # The last 32 writes were 1968 to 1999, and 1984 is a multiple of 32.
            self.assertEqual(disk.blocks, tuple((at % 256,) for at in (*range(1984, 2000), *range(1968, 1984))))

    def test_what_was_told_stays(self):
        disk = Disk()
        told = [disk.blocks]
        for at in range(5):
            disk.write(at, (at,))
            told.append(disk.blocks)
        for at, blocks in enumerate(told):
            self.assertEqual(blocks, tuple((number,) if number < at else () for number in range(32)))

    def test_disks_by_turns(self):
        one = Disk(room=1)
        two = Disk(one.blocks)
        one.write(1, (1,))
        two.write(2, (2,))
        three = Disk(one.blocks, room=3)
        three.write(3, (3,))
        with self.assertRaises(Cut):
            one.write(4, (4,))
        two.write(4, (4,))
        self.assertEqual([[number for number, block in enumerate(disk.blocks) if block] for disk in (one, two, three)], [[1], [2, 4], [1, 3]])


if __name__ == "__main__":
    unittest.main()
