"""Disks: blocks of bytes, each written whole or not at all."""

from telltrove.errors import Cut

BLOCKS = 32


class Disk:
    """Has 32 blocks, and room for a number of writes, or for any number."""

    def __init__(self, blocks=(), room=None):
        self.rows = blocks if blocks else ((),) * BLOCKS
        self.room = room

    @property
    def blocks(self):
        """All blocks."""
        return self.rows

    def write(self, number, block):
        """Replaces a block; without room nothing is written."""
        if self.room == 0:
            raise Cut()
        if self.room is not None:
            self.room -= 1
        self.rows = (*self.rows[:number], block, *self.rows[number + 1:])
