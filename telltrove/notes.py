"""Notes of a leader: what stands at which place."""

from telltrove.digits import digits_of, number_from

KEY_NOTE = 0
PAGE_NOTE = 1
STAMP_BYTES = 2
# The epoch stands behind the word, the key or page, and the stamp, in both notes; a page's block begins with it.
EPOCH_PLACE = 4


def noted(word, place, stamp, told):
    """A note about a key or a page, with a stamp and what is told behind it."""
    return (word, place, *digits_of(stamp, STAMP_BYTES), *told)


def stamp_in(note):
    """The stamp of a note."""
    return number_from(note[2:EPOCH_PLACE])
