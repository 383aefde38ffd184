"""How several blocks of a disk are replaced in one step.

Spare blocks take down what is to be written; block 0 tells that all of it stands there, and for which blocks. Whoever
finds this can do the work again from its beginning, as often as may be.
"""

from telltrove.disk import BLOCKS

FIRST_SPARE = 11


def replace_blocks(disk, epoch, pairs):
    """Replaces blocks, told as pairs of a number above 0 and a block, all or none, in an epoch."""
    fresh = [(number, block) for number, block in pairs if disk.blocks[number] != block]
    if len(fresh) == 1:
        number, block = fresh[0]
        disk.write(number, block)
    elif fresh:
        for place, (_, block) in enumerate(fresh):
            disk.write(FIRST_SPARE + place, block)
        disk.write(0, (epoch, len(fresh), *[number for number, _ in fresh]))
        finish(disk)


def finish(disk):
    """Does what block 0 tells to be under way, and empties the spare blocks."""
    epoch, _, *numbers = disk.blocks[0]
    for place, number in enumerate(numbers):
        write_fresh(disk, number, disk.blocks[FIRST_SPARE + place])
    write_fresh(disk, 0, (epoch, 0))
    for number in range(FIRST_SPARE, BLOCKS):
        write_fresh(disk, number, ())


def write_fresh(disk, number, block):
    """Writes a block if it is not there already."""
    if disk.blocks[number] != block:
        disk.write(number, block)
