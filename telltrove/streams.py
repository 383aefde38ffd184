"""Streams: data behind their lengths, however the stream is cut."""

from telltrove.digits import digits_of, number_from

LENGTH_BYTES = 2


def framed(data):
    """The data behind their length."""
    return (*digits_of(len(data), LENGTH_BYTES), *data)


class Feed:
    """Hears a stream piece by piece."""

    def __init__(self):
        # What was heard behind the last complete data.
        self.tail = []

    def hear(self, piece):
        """All data that are complete with this piece, in order."""
        self.tail.extend(piece)
        told = []
        at = 0
        end = self._end_of_data(at)
        while end <= len(self.tail):
            told.append(tuple(self.tail[at + LENGTH_BYTES:end]))
            at = end
            end = self._end_of_data(at)
        if told:
            self.tail = self.tail[at:]
        return tuple(told)

    def _end_of_data(self, at):
        """The place behind the data that begins at a place; it is behind all that was heard if no length is there."""
        begin = at + LENGTH_BYTES
        return begin + number_from(self.tail[at:begin])

    def held(self):
        """How many bytes were heard that belong to no complete data."""
        return len(self.tail)
