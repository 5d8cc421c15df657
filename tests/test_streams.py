"""[14]: streams of a deck with given ends and steps."""

import itertools
import math
import random
import unittest

from decks import (
    GREAT, SMALL, has_ends, made, plain_step, streams_of_steps, streams_up_to, walked_stream, wrong_streams,
)
from frameseams.blocks import Deck
from frameseams.errors import InvalidIndex, InvalidNumber, InvalidStream
from frameseams.streams import a_stream, count_streams, fewest_blocks, nth_stream, stream_index
from helpers import LONG, outcome, wrong_lists

AT_STEPS = [count_streams, fewest_blocks, a_stream]
WRONG_STEPS = [0, -1, -400, 401, 402, 4000, LONG, -LONG, True, False]
# Two kinds of one empty edge: streams are the ways to write a number as a sum of ones and twos, in sequence.
ONES_AND_TWOS = (1, [[]], [(0, 1, 0), (0, 2, 0)])


def ends_of(parts):
    return itertools.product(range(len(parts[1])), repeat=2)


def greatest_small_steps(parts):
    """Up to these steps the streams are few enough to be gone over."""
    return 7 if len(parts[2]) > 4 else 11


def plain_steps(parts, stream):
    return sum(plain_step(parts, kind) for kind in stream)


class AgainstAllStreams(unittest.TestCase):
    def cases(self):
        """Each deck, ends and steps with all of their streams, in ascending sequence."""
        for parts in SMALL:
            for steps in range(1, greatest_small_steps(parts) + 1):
                streams = streams_of_steps(parts, steps)
                for rise, fall in ends_of(parts):
                    yield parts, rise, fall, steps, [one for one in streams if has_ends(parts, one, rise, fall)]

    def test_there_are_streams_to_go_over(self):
        many = [len(streams) for *_, streams in self.cases()]
        self.assertGreater(max(many), 30)
        self.assertGreater(many.count(0), 100)

    def test_count_streams(self):
        for parts, rise, fall, steps, streams in self.cases():
            self.assertEqual(count_streams(made(parts), rise, fall, steps), len(streams), (parts, rise, fall, steps))

    def test_nth_stream(self):
        for parts, rise, fall, steps, streams in self.cases():
            case = (made(parts), rise, fall, steps)
            for index, stream in enumerate(streams):
                self.assertEqual(nth_stream(*case, index), stream, (parts, rise, fall, steps, index))
            for index in (-1, -len(streams), len(streams), len(streams) + 1, LONG, -LONG, True, False):
                if isinstance(index, bool) or not 0 <= index < len(streams):
                    self.assertEqual(outcome(nth_stream, *case, index), ("error", InvalidIndex))

    def test_stream_index(self):
        for parts, rise, fall, steps, streams in self.cases():
            for index, stream in enumerate(streams):
                self.assertEqual(stream_index(made(parts), stream), index, (parts, stream))

    def test_fewest_blocks(self):
        for parts, rise, fall, steps, streams in self.cases():
            expected = min([len(stream) for stream in streams], default=None)
            self.assertEqual(fewest_blocks(made(parts), rise, fall, steps), expected, (parts, rise, fall, steps))

    def test_a_stream(self):
        for parts, rise, fall, steps, streams in self.cases():
            told = a_stream(made(parts), rise, fall, steps)
            if not streams:
                self.assertIs(told, None)
                continue
            self.assertIn(told, streams)
            self.assertEqual(len(told), min(len(stream) for stream in streams))

    def test_there_are_streams_exactly_where_the_deck_reaches(self):
        for parts in SMALL:
            deck = made(parts)
            for rise, fall in ends_of(parts):
                many = sum(count_streams(deck, rise, fall, steps) for steps in range(1, 40))
                self.assertIs(deck.reaches(rise, fall), many > 0)


class ThereAndBack(unittest.TestCase):
    def test_great_decks(self):
        for parts in GREAT + SMALL:
            deck = made(parts)
            for rise, fall in list(ends_of(parts))[::max(1, len(parts[1]) ** 2 // 6)]:
                for steps in (1, 2, 99, 160, 320, 399, 400):
                    self.check(parts, deck, rise, fall, steps)

    def check(self, parts, deck, rise, fall, steps):
        many = count_streams(deck, rise, fall, steps)
        draw = random.Random(steps)
        indices = {0, 1, many // 2, many - 2, many - 1, draw.randrange(many) if many else 0}
        for index in sorted(one for one in indices if 0 <= one < many):
            stream = nth_stream(deck, rise, fall, steps, index)
            self.assertTrue(deck.is_stream(stream))
            self.assertEqual(plain_steps(parts, stream), steps)
            self.assertTrue(has_ends(parts, stream, rise, fall))
            self.assertEqual(stream_index(deck, stream), index)
        for index in (-1, many, many + 1):
            self.assertEqual(outcome(nth_stream, deck, rise, fall, steps, index), ("error", InvalidIndex))
        self.check_fewest(parts, deck, rise, fall, steps, many)

    def check_fewest(self, parts, deck, rise, fall, steps, many):
        blocks, told = fewest_blocks(deck, rise, fall, steps), a_stream(deck, rise, fall, steps)
        self.assertEqual(blocks is None, many == 0)
        self.assertEqual(told is None, many == 0)
        if many:
            self.assertTrue(deck.is_stream(told))
            self.assertEqual((len(told), plain_steps(parts, told)), (blocks, steps))
            self.assertTrue(has_ends(parts, told, rise, fall))
            # No stream that is known has fewer.
            self.assertLessEqual(blocks, len(nth_stream(deck, rise, fall, steps, many - 1)))

    def test_walked_streams(self):
        for parts in GREAT + SMALL:
            deck = made(parts)
            _, _, kinds = parts
            for seed in range(6):
                stream = walked_stream(parts, 400, seed)
                while plain_steps(parts, stream) > 400:
                    stream.pop()
                rise, fall, steps = kinds[stream[0]][0], kinds[stream[-1]][2], plain_steps(parts, stream)
                index = stream_index(deck, stream)
                self.assertEqual(nth_stream(deck, rise, fall, steps, index), stream)
                self.assertLess(index, count_streams(deck, rise, fall, steps))
                self.assertLessEqual(fewest_blocks(deck, rise, fall, steps), len(stream))

    def test_sequence_is_ascending(self):
        deck = made(SMALL[9])
        streams = [nth_stream(deck, 0, 0, 30, index) for index in range(1000, 1400)]
        self.assertTrue(all(one < other for one, other in zip(streams, streams[1:])))


class ToldByHand(unittest.TestCase):
    def test_ones_and_twos(self):
        deck = made(ONES_AND_TWOS)
        ways = [1, 1]
        while len(ways) <= 400:
            ways.append(ways[-1] + ways[-2])
        for steps in (1, 2, 3, 4, 10, 99, 399, 400):
            self.assertEqual(count_streams(deck, 0, 0, steps), ways[steps])
            self.assertEqual(fewest_blocks(deck, 0, 0, steps), (steps + 1) // 2)
            self.assertEqual(nth_stream(deck, 0, 0, steps, 0), [0] * steps)
            self.assertEqual(nth_stream(deck, 0, 0, steps, ways[steps] - 1), [1] * (steps // 2) + [0] * (steps % 2))
            self.assertEqual(stream_index(deck, [0] * steps), 0)
        self.assertEqual([nth_stream(deck, 0, 0, 4, index) for index in range(5)], [
            [0, 0, 0, 0], [0, 0, 1], [0, 1, 0], [1, 0, 0], [1, 1],
        ])

    def test_both_sides_of_the_steps(self):
        deck = made(SMALL[0])
        for steps in (1, 2, 399, 400):
            self.assertEqual(count_streams(deck, 0, 0, steps), 1)
            self.assertEqual(nth_stream(deck, 0, 0, steps, 0), [0] * steps)
            self.assertEqual(stream_index(deck, [0] * steps), 0)
            self.assertEqual(fewest_blocks(deck, 0, 0, steps), steps)
            self.assertEqual(a_stream(deck, 0, 0, steps), [0] * steps)
        for steps in WRONG_STEPS:
            for call in AT_STEPS:
                self.assertEqual(outcome(call, deck, 0, 0, steps), ("error", InvalidNumber))
            self.assertEqual(outcome(nth_stream, deck, 0, 0, steps, 0), ("error", InvalidNumber))
            self.assertEqual(outcome(nth_stream, deck, 0, 0, steps, -1), ("error", InvalidNumber))

    def test_no_stream(self):
        deck = Deck(1, [[1], [2], [3]], [(0, 2, 1), (1, 1, 1)])
        cases = [(0, 0, 5), (1, 0, 5), (2, 2, 5), (0, 2, 400), (0, 1, 1), (0, 1, 2), (0, 1, 4), (1, 1, 3)]
        for rise, fall, steps in cases:
            self.assertEqual(count_streams(deck, rise, fall, steps), 0)
            self.assertIs(fewest_blocks(deck, rise, fall, steps), None)
            self.assertIs(a_stream(deck, rise, fall, steps), None)
            for index in (0, -1, 1, LONG):
                self.assertEqual(outcome(nth_stream, deck, rise, fall, steps, index), ("error", InvalidIndex))
        self.assertEqual(a_stream(deck, 0, 1, 3), [0])
        self.assertEqual(a_stream(deck, 0, 1, 5), [0, 1])
        self.assertEqual(a_stream(deck, 1, 1, 400), [1] * 200)

    def test_fewest_is_not_the_greatest_step_first(self):
        # 12 = 6 + 6 steps, although 10 is the greatest step.
        deck = Deck(1, [[]], [(0, 1, 0), (0, 6, 0), (0, 10, 0)])
        self.assertEqual(fewest_blocks(deck, 0, 0, 12), 2)
        self.assertEqual(a_stream(deck, 0, 0, 12), [1, 1])
        self.assertEqual(fewest_blocks(deck, 0, 0, 400), 40)

    def test_block_of_greatest_step(self):
        deck = Deck(1, [[1] * 60], [(0, 100, 0)])
        for steps in range(1, 401):
            self.assertEqual(count_streams(deck, 0, 0, steps), 1 if steps % 160 == 0 else 0)
            self.assertEqual(fewest_blocks(deck, 0, 0, steps), steps // 160 if steps % 160 == 0 else None)


class MoreSteps(unittest.TestCase):
    """Streams of more than 400 steps: nothing is raised, and the index is the one among streams of the same steps."""

    def test_one_kind(self):
        for many in (3, 20, 400):
            self.assertEqual(stream_index(made(GREAT[0]), [0] * many), 0)
            self.assertEqual(stream_index(made(GREAT[0]), [29] * many), 30 ** many - 1)

    def test_as_many_blocks_as_the_steps_may_have(self):
        # Blocks of 2 and 3 steps: no list of up to 800 steps has more than 400 kinds.
        deck = Deck(1, [[]], [(0, 2, 0), (0, 3, 0)])
        ways = [1, 0, 1]
        while len(ways) <= 800:
            ways.append(ways[-2] + ways[-3])
        for stream in ([1] * 200, [1] * 266, [0] * 300, [0] * 400, [1, 0] * 150, [0, 1, 1] * 90, [1] + [0] * 398):
            steps = sum(2 + kind for kind in stream)
            index, left = 0, steps
            for kind in stream:
                if kind == 1:
                    index += ways[left - 2]
                left -= 2 + kind
            self.assertEqual(stream_index(deck, stream), index)

    def test_no_list_of_more_kinds_is_counted(self):
        # A list of ones and twos is a stream only if it has at most 400 of them.
        deck = made(ONES_AND_TWOS)
        for twos in (201, 250, 400):
            steps = 2 * twos
            # The last one of all lists has twos alone.
            many = sum(math.comb(steps - k, k) for k in range(steps // 2 + 1) if steps - k <= 400)
            self.assertEqual(stream_index(deck, [1] * twos), many - 1)
        # The first stream of 402 steps has as many ones ahead as leave a stream.
        self.assertEqual(stream_index(deck, [0] * 398 + [1, 1]), 0)
        self.assertEqual(stream_index(deck, [0] * 397 + [1, 0, 1]), 1)
        self.assertEqual(stream_index(deck, [0] * 397 + [1, 1, 0]), 2)

    def test_against_plain_going_on(self):
        deck = (5, [[1], [1], []], [(0, 0, 1), (1, 1, 2), (2, 1, 0), (2, 2, 1), (1, 0, 0)])
        for stream in ([0, 4, 0, 1, 2, 4, 1, 3] * 45, [4, 0] * 190 + [1, 3] * 10, [0] * 380 + [1, 3] * 9 + [1]):
            self.assertGreater(plain_steps(deck, stream), 400)
            self.assertEqual(stream_index(made(deck), stream), plain_index(deck, stream))

    def test_kinds_whose_steps_are_more_than_are_left(self):
        deck = (1, [[]], [(0, 3, 0), (0, 1, 0), (0, 2, 0), (0, 1, 0)])
        for stream in ([0] * 140 + [1], [0] * 140 + [3], [2] * 210 + [2], [3, 0] * 110 + [2, 3], [2] * 200 + [1, 1, 1]):
            self.assertGreater(plain_steps(deck, stream), 400)
            self.assertEqual(stream_index(made(deck), stream), plain_index(deck, stream))


def plain_index(parts, stream):
    """How many streams with the same ends and steps are less, by going on from all lists that are less so far."""
    _, edges, kinds = parts
    paths = [(tuple(edges[rise]), len(edges[rise]) + flat, tuple(edges[fall])) for rise, flat, fall in kinds]
    steps, end = sum(paths[kind][1] for kind in stream), paths[stream[-1]][2]
    less, index, done = {}, 0, 0
    for place in range(400):
        more = {}
        for (before, edge), many in less.items():
            for rise, step, fall in paths:
                if rise == edge and before + step <= steps:
                    more[before + step, fall] = more.get((before + step, fall), 0) + many
        if place < len(stream):
            for rise, step, fall in paths[:stream[place]]:
                if rise == paths[stream[place]][0] and done + step <= steps:
                    more[done + step, fall] = more.get((done + step, fall), 0) + 1
            done += paths[stream[place]][1]
        index += more.get((steps, end), 0)
        less = more
    return index


class WrongArguments(unittest.TestCase):
    def test_numbers_of_no_edge(self):
        for parts in SMALL + GREAT:
            deck, many = made(parts), len(parts[1])
            for wrong in (-1, -many, many, many + 1, LONG, -LONG, True, False):
                for call, more in [(call, ()) for call in AT_STEPS] + [(nth_stream, (0,)), (nth_stream, (-1,))]:
                    for steps in (5, 0, 401):
                        self.assertEqual(outcome(call, deck, wrong, 0, steps, *more), ("error", InvalidNumber))
                        self.assertEqual(outcome(call, deck, 0, wrong, steps, *more), ("error", InvalidNumber))

    def test_wrong_streams(self):
        deck = made(SMALL[5])
        for thing in wrong_streams() + wrong_lists():
            self.assertEqual(outcome(stream_index, deck, thing), ("error", InvalidStream), thing)

    def test_streams_as_long_as_they_may_be(self):
        self.assertEqual(stream_index(made(SMALL[0]), [0] * 400), 0)
        self.assertEqual(outcome(stream_index, made(SMALL[0]), [0] * 401), ("error", InvalidStream))
        for parts in SMALL:
            for stream in streams_up_to(parts, 2):
                self.assertEqual(outcome(stream_index, made(parts), stream)[0], "value")


if __name__ == "__main__":
    unittest.main()
