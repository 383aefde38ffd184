"""Streams: promise [46]."""

import itertools
import random
import unittest

from telltrove.streams import Feed, framed


def cuts_of(stream):
    """All ways to cut a stream into pieces that are not empty."""
    for places in itertools.product((False, True), repeat=max(0, len(stream) - 1)):
        ends = [at + 1 for at, cut in enumerate(places) if cut] + [len(stream)]
        yield [stream[begin:end] for begin, end in zip([0] + ends, ends)]


def complete_in(stream):
    """The data that are complete in the beginning of a stream, and how many bytes are over."""
    told = []
    while len(stream) >= 2 and len(stream) >= 2 + 256 * stream[0] + stream[1]:
        many = 256 * stream[0] + stream[1]
        told.append(stream[2:2 + many])
        stream = stream[2 + many:]
    return told, len(stream)


class Framed(unittest.TestCase):

    def test_lengths(self):
        self.assertEqual(framed(()), (0, 0))
        self.assertEqual(framed((7, 8)), (0, 2, 7, 8))
        for many, head in ((255, (0, 255)), (256, (1, 0)), (257, (1, 1)), (65535, (255, 255))):
            data = tuple(at % 251 for at in range(many))
            self.assertEqual(framed(data), head + data)


class Heard(unittest.TestCase):

    def test_by_hand(self):
        feed = Feed()
        self.assertEqual(feed.held(), 0)
        self.assertEqual(feed.hear((0, 2, 7)), ())
        self.assertEqual(feed.held(), 3)
        self.assertEqual(feed.hear((8, 0)), ((7, 8),))
        self.assertEqual(feed.held(), 1)
        self.assertEqual(feed.hear(()), ())
        self.assertEqual(feed.held(), 1)
        self.assertEqual(feed.hear((0, 0, 0, 0, 1, 5)), ((), (), (5,)))
        self.assertEqual(feed.held(), 0)
        self.assertEqual(feed.hear(()), ())

    def test_a_length_alone(self):
        feed = Feed()
        self.assertEqual(feed.hear((0,)), ())
        self.assertEqual(feed.held(), 1)
        self.assertEqual(feed.hear((0,)), ((),))
        self.assertEqual(feed.held(), 0)
        self.assertEqual(feed.hear((1,)), ())
        self.assertEqual(feed.hear((0,)), ())
        self.assertEqual(feed.held(), 2)

    def test_all_cuts_of_short_streams(self):
        for datas in ([], [()], [(9,)], [(), ()], [(1, 2), (), (3,)], [(0,), (0, 0)], [(), (0, 1, 0), ()], [(2, 0, 0, 2), (5,)]):
            stream = sum([framed(data) for data in datas], ())
            for pieces in cuts_of(stream):
                feed = Feed()
                heard, told = (), []
                for piece in pieces:
                    news = feed.hear(piece)
                    self.assertIsInstance(news, tuple)
                    heard += piece
                    told += list(news)
                    own, over = complete_in(heard)
                    # Each data as soon as its last byte is heard.
                    self.assertEqual(told, own)
                    self.assertEqual(feed.held(), over)
                self.assertEqual(told, datas)
                self.assertEqual(feed.held(), 0)

    def test_streams_that_end_within_a_data(self):
        stream = framed((1, 2, 3)) + framed((4, 5))
        for end in range(len(stream) + 1):
            feed = Feed()
            own, over = complete_in(stream[:end])
            self.assertEqual(list(feed.hear(stream[:end])), own)
            self.assertEqual(feed.held(), over)
            self.assertEqual(list(feed.hear(stream[end:])), [(1, 2, 3), (4, 5)][len(own):])

    def test_long_data(self):
        for many in (0, 255, 256, 65535):
            data = tuple((7 * at) % 256 for at in range(many))
            stream = framed(data) + framed((1,))
            for size in (1, 2, 3, 254, 255, 256, 257, 65534, 65537, 99999):
                feed = Feed()
                told = []
                for begin in range(0, len(stream), size):
                    news = feed.hear(stream[begin:begin + size])
                    told += [(begin, own) for own in news]
                last = (len(stream) - 4) // size * size
                if many:
                    self.assertEqual([own for _, own in told], [data, (1,)])
                    self.assertEqual(told[0][0], last)
                self.assertEqual(feed.held(), 0)

    def test_many_data_at_once(self):
        rng = random.Random(61)
        datas = tuple(tuple(rng.randrange(256) for _ in range(rng.choice((0, 1, 2, 300)))) for _ in range(400))
        stream = sum([framed(data) for data in datas], ())
        feed = Feed()
        self.assertEqual(feed.hear(stream), datas)
        self.assertEqual(feed.hear(stream[:-1]), datas[:-1])
        self.assertEqual(feed.held(), len(framed(datas[-1])) - 1)
        self.assertEqual(feed.hear(stream[-1:]), datas[-1:])

    def test_feeds_by_turns(self):
        rng = random.Random(62)
        streams = [[tuple(rng.randrange(4) for _ in range(rng.randrange(4))) for _ in range(30)] for _ in range(3)]
        bytes_left = [list(sum([framed(data) for data in datas], ())) for datas in streams]
        feeds = [Feed() for _ in streams]
        told = [[] for _ in streams]
        while any(bytes_left):
            at = rng.randrange(3)
            many = rng.randrange(5)
            piece, bytes_left[at] = tuple(bytes_left[at][:many]), bytes_left[at][many:]
            told[at] += feeds[at].hear(piece)
        self.assertEqual(told, streams)


if __name__ == "__main__":
    unittest.main()
