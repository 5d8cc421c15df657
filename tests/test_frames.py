"""[16]: frames of a signal, their sums, and the class Joiner."""

import itertools
import random
import unittest

from frameseams.errors import InvalidHop, InvalidList, InvalidNumber, InvalidWindow, NothingToUndo
from frameseams.frames import Joiner, first_frame, frames_of, samples_of, signal_back
from helpers import LONG, a_deck, kept, lists_in, outcome, same, some_wrong_windows, spoil, wrong_lists, wrong_windows

WINDOWS = [
    [1], [-3], [1, 2, 2, 1], [1, 1, 1], [0, 5, 0], [1, -1], [1, -2, 1], [LONG, 7], [3, 0, 0, 0, 0, 1], [2] * 17,
    [1] * 200, [0] * 199 + [4],
]
HOPS = [1, 2, 3, 4, 5, 16, 17, 18, 199, 200, 201, 399, 400, 401, 1000]
WRONG_HOPS = [0, -1, 1001, 1002, LONG, -LONG, True, False]
WRONG_NUMBERS = [0, -1, -400, 401, 402, LONG, -LONG, True, False]


def drawn_signal(many, seed=0):
    draw = random.Random(1000 * seed + many)
    return [draw.choice((0, 1, -1, 5, -LONG, LONG, draw.randint(-50, 50))) for _ in range(many)]


SIGNALS = [[0], [1], [-LONG], [1, 2], drawn_signal(7), drawn_signal(16), drawn_signal(50), drawn_signal(400)]


def plain_first(window, hop):
    """By going over frames: the least number of one whose entries reach 0."""
    return min(k for k in range(-300, 1) if k * hop + len(window) - 1 >= 0)


def plain_frame(window, hop, signal, frame):
    entries = []
    for i, entry in enumerate(window):
        at = frame * hop + i
        entries.append(entry * (signal[at] if 0 <= at < len(signal) else 0))
    return entries


def plain_samples(frames, hop, first, number):
    sums = []
    for sample in range(number):
        total = 0
        for k, frame in enumerate(frames):
            at = sample - (first + k) * hop
            if frame is not None and 0 <= at < len(frame):
                total += frame[at]
        sums.append(total)
    return sums


def plain_weights(window, frames, hop, number):
    """What is left of the window's sums."""
    return plain_samples([frame and window for frame in frames], hop, plain_first(window, hop), number)


def wrong_lists_of_frames():
    """Objects that are no lists of frames, new ones for each call."""
    return [
        None, True, 0, LONG, "", "1", (), ([1],), (None,), {}, {"a": [1]}, [], a_deck(), InvalidList("x"),
        [[]], [[1], []], [[1] * 201], [[1], [1] * 201], [[1]] * 801, [None] * 801, [[1]] * 4000,
        [1], [None, 1], [[1], 2], [True], [False], ["1"], [{}], [[1], {"a": 1}], [()], [(1,)], [[1], (1,)], [a_deck()],
        [[True]], [[1, False]], [[1], [True]], [["1"]], [["1"], None], [[[1]]], [[1, [2]]], [[None]], [[1, None]],
        [[a_deck()]],
    ]


class FirstFrame(unittest.TestCase):
    def test_told_by_hand(self):
        for window, hop, first in [
            ([1], 1, 0), ([1], 1000, 0), ([1, 1], 1, -1), ([1, 1], 2, 0), ([1, 1], 3, 0), ([1, 1, 1], 2, -1),
            ([1, 1, 1, 1], 2, -1), ([1] * 5, 2, -2), ([1] * 200, 1, -199), ([1] * 200, 199, -1), ([1] * 200, 200, 0),
            ([1] * 200, 201, 0), ([0, 0, 0, 1], 1, -3), ([1, 0, 0, 0], 1, -3),
        ]:
            self.assertEqual(first_frame(window, hop), first, (window, hop))
            self.assertIs(type(first_frame(window, hop)), int)

    def test_against_going_over_frames(self):
        for many, hop in itertools.product((1, 2, 3, 4, 5, 6, 7, 16, 17, 199, 200), HOPS):
            self.assertEqual(first_frame([1] * many, hop), plain_first([1] * many, hop), (many, hop))


class FramesOf(unittest.TestCase):
    def test_told_by_hand(self):
        for window, hop, signal, frames in [
            ([2], 1, [5, -7], [[10], [-14]]), ([2], 2, [5, 6, 7], [[10], [14]]),
            ([1, 2], 2, [5, 6, 7], [[5, 12], [7, 0]]), ([1, 2], 1, [5, 6], [[0, 10], [5, 12], [6, 0]]),
            ([1, 2, 3], 2, [4], [[0, 0, 12], [4, 0, 0]]), ([1, 2], 3, [4, 5, 6], [[4, 10]]),
            ([1, 2], 3, [4, 5, 6, 7], [[4, 10], [7, 0]]), ([3], 1000, [1] * 400, [[3]]),
        ]:
            self.assertEqual(frames_of(window, hop, signal), frames, (window, hop, signal))

    def test_each_entry(self):
        for window, hop, signal in itertools.product(WINDOWS, HOPS, SIGNALS):
            first = plain_first(window, hop)
            numbers = [k for k in range(first, len(signal)) if k * hop < len(signal)]
            frames = [plain_frame(window, hop, signal, k) for k in numbers]
            self.assertEqual(frames_of(window, hop, signal), frames, (window, hop))

    def test_both_sides_of_the_signal(self):
        self.assertEqual(frames_of([1], 1, [9]), [[9]])
        self.assertEqual(len(frames_of([1] * 200, 1, [1] * 400)), 599)
        for signal in ([], [1] * 401, [0] * 401, [1] * 4000):
            self.assertEqual(outcome(frames_of, [1], 1, signal), ("error", InvalidList))
        for signal in wrong_lists():
            for hop in (1, 1000):
                self.assertEqual(outcome(frames_of, [1, 1], hop, signal), ("error", InvalidList), signal)

    def test_wrong_windows_and_hops(self):
        for thing in wrong_windows():
            for hop in (1, 0):
                self.assertEqual(outcome(first_frame, thing, hop), ("error", InvalidWindow))
                self.assertEqual(outcome(frames_of, thing, hop, []), ("error", InvalidWindow))
        for hop in WRONG_HOPS:
            self.assertEqual(outcome(first_frame, [1, 1], hop), ("error", InvalidHop))
            for signal in ([1], [], None):
                self.assertEqual(outcome(frames_of, [1, 1], hop, signal), ("error", InvalidHop))


class SamplesOf(unittest.TestCase):
    def test_told_by_hand(self):
        for frames, hop, first, number, sums in [
            ([[1, 2], [3, 4]], 1, 0, 3, [1, 5, 4]), ([[1, 2], [3, 4]], 1, -1, 3, [5, 4, 0]), ([[5]], 3, 0, 1, [5]),
            ([[1, 2], None, [3, 4]], 1, 0, 5, [1, 2, 3, 4, 0]), ([None], 1, 0, 2, [0, 0]),
            ([[1], [2]], 2, 0, 4, [1, 0, 2, 0]), ([[1, 1, 1, 1], [7], None, [-2, 3]], 1, 0, 5, [1, 8, 1, -1, 3]),
            ([[1, 2, 3]], 2, 1, 5, [0, 0, 1, 2, 3]), ([[1, 2, 3]], 2, -1, 2, [3, 0]), ([[1, 2, 3]], 2, -2, 2, [0, 0]),
            ([[LONG], [LONG]], 1, 0, 2, [LONG, LONG]),
        ]:
            self.assertEqual(samples_of(frames, hop, first, number), sums, (frames, hop, first, number))

    def test_against_plain_laying(self):
        draw = random.Random(4)
        for many, hop, number in itertools.product((1, 2, 9, 60), (1, 2, 7, 100, 1000), (1, 2, 50, 400)):
            frames = [drawn_signal(draw.choice((1, 2, 5, 30, 200)), k) for k in range(many)]
            for k in range(many):
                if draw.random() < 0.3:
                    frames[k] = None
            for first in (0, 1, -1, -5, -many, 3, 399, -400):
                case = (frames, hop, first, number)
                self.assertEqual(samples_of(*case), plain_samples(*case), (many, hop, first, number))

    def test_numbers_far_away(self):
        for first in (LONG, -LONG, 10 ** 30 - 1, 1 - 10 ** 30):
            self.assertEqual(samples_of([[1, 2], None, [3]], 1000, first, 3), [0, 0, 0])
        self.assertEqual(samples_of([[1]] * 800, 1, -799, 2), [1, 0])
        self.assertEqual(samples_of([[1]] * 800, 1, -799 + 399, 400), [1] * 400)

    def test_frames_of_a_signal(self):
        # The sums are the samples times the window's sums.
        windows = [([1, 2, 2, 1], 2, 3), ([1, 2, 2, 1], 3, 2), ([1] * 200, 50, 4), ([1, -1, -1, 1], 2, 0)]
        for window, hop, level in windows:
            for signal in SIGNALS:
                frames = frames_of(window, hop, signal)
                sums = samples_of(frames, hop, first_frame(window, hop), len(signal))
                self.assertEqual(sums, [level * sample for sample in signal])

    def test_limits(self):
        self.assertEqual(samples_of([[1] * 200] * 800, 1, 0, 400), [min(k + 1, 200) for k in range(400)])
        for thing in wrong_lists_of_frames():
            for hop, first, number in [(1, 0, 1), (0, True, 0)]:
                self.assertEqual(outcome(samples_of, thing, hop, first, number), ("error", InvalidList), thing)
        for hop in WRONG_HOPS:
            for first, number in [(0, 1), (True, 0)]:
                self.assertEqual(outcome(samples_of, [[1], None], hop, first, number), ("error", InvalidHop))
        for first in (True, False):
            self.assertEqual(outcome(samples_of, [[1]], 1, first, 0), ("error", InvalidNumber))
            self.assertEqual(outcome(samples_of, [[1]], 1, first, 5), ("error", InvalidNumber))
        for number in WRONG_NUMBERS:
            self.assertEqual(outcome(samples_of, [[1]], 1, 0, number), ("error", InvalidNumber))


class SignalBack(unittest.TestCase):
    def check(self, window, hop, signal, frames, number):
        """The told samples are those of the signal, and None exactly where nothing is left of the window."""
        weights = plain_weights(window, frames, hop, number)
        told = signal_back(window, hop, frames, number)
        padded = signal + [0] * number
        expected = [padded[k] if weight != 0 else None for k, weight in enumerate(weights)]
        self.assertEqual(told, expected, (window, hop, number))

    def test_frames_of_signals(self):
        for window, hop, signal in itertools.product(WINDOWS, HOPS, SIGNALS):
            frames = frames_of(window, hop, signal)
            for number in {1, len(signal), min(400, len(signal) + 30), max(1, len(signal) - 5)}:
                weights = plain_weights(window, frames, hop, number)
                if all(weight != 0 for weight in weights[:len(signal)]):
                    self.check(window, hop, signal, frames, number)

    def test_lost_frames(self):
        draw = random.Random(16)
        windows = [([1, 2, 2, 1], 2), ([1, 2, 2, 1], 1), ([1, 2, 3], 2), ([5, 1, 1], 1), ([1] * 200, 7), ([LONG, 7], 1)]
        for window, hop in windows:
            for many, share in itertools.product((1, 9, 60, 400), (0.1, 0.5, 0.9, 1)):
                signal = drawn_signal(many, hop)
                frames = frames_of(window, hop, signal)
                frames = [None if draw.random() < share else frame for frame in frames]
                for number in (1, many, min(400, many + 9)):
                    self.check(window, hop, signal, frames, number)

    def test_told_by_hand(self):
        for window, hop, frames, number, samples in [
            ([1, 1], 1, [[0, 4], [4, 5], [5, 0]], 2, [4, 5]), ([1, 1], 1, [[0, 4], [4, 5], [5, 0]], 4, [4, 5, 0, None]),
            ([1, 1], 1, [[0, 4], [4, 5]], 3, [4, 5, None]), ([1, 1], 1, [None, [4, 5]], 3, [4, 5, None]),
            ([1, 1], 1, [None, None, [5, 0]], 3, [None, 5, 0]), ([1, 1], 1, [None], 2, [None, None]),
            ([2], 1, [[-6]], 2, [-3, None]), ([-2], 1, [[6]], 1, [-3]),
            ([1, 2], 3, [[4, 10], [7, 0]], 6, [4, 5, None, 7, 0, None]), ([3, 0], 2, [[9, 0]], 2, [3, None]),
            ([1, -1], 1, [[0, -4], [4, -5], [5, 0]], 3, [None, None, 0]),
            ([1, -1], 1, [None, [4, -5], [5, 0]], 3, [4, None, 0]), ([1, -1], 1, [[0, -4], None, [5, 0]], 3, [4, 5, 0]),
            ([1], 1, [[7]], 1, [7]),
        ]:
            self.assertEqual(signal_back(window, hop, frames, number), samples, (window, hop, frames, number))

    def test_windows_whose_sum_is_0(self):
        # The sums of these windows are 0 everywhere, or at some rests; so nothing tells those samples.
        for window, hop, signal in itertools.product(([1, -1], [1, -2, 1], [1, 0, -1, 2], [0, 3]), (1, 2), SIGNALS):
            frames = frames_of(window, hop, signal)
            # A frame behind the signal would be one of zeros.
            behind = [[0] * len(window)] * (len(window) // hop)
            number = len(signal)
            self.check(window, hop, signal, frames + behind, number)

    def test_fewer_frames_than_the_signal_has(self):
        signal = list(range(1, 41))
        frames = frames_of([1, 2, 2, 1], 2, signal)
        for many in range(1, len(frames) + 1):
            self.check([1, 2, 2, 1], 2, signal, frames[:many], 40)

    def test_more_samples_than_the_signal_has(self):
        self.assertEqual(signal_back([1, 1, 1, 1], 2, frames_of([1, 1, 1, 1], 2, [7]), 6), [7, 0, 0, 0, None, None])
        self.assertEqual(signal_back([1], 1, frames_of([1], 1, [7]), 400), [7] + [None] * 399)

    def test_a_bent_entry(self):
        window, hop = [1, 2, 2, 1], 2
        frames = frames_of(window, hop, [4, 8, -3, 5, 6, 1])
        for k, i in itertools.product(range(len(frames)), range(4)):
            for by in (1, -1, 2, LONG):
                bent = kept(frames)
                bent[k][i] += by
                # At a sample that is asked for the sum is by more; what is left of the window's sums is 3 everywhere.
                sample = (k - 1) * hop + i
                for number in (1, 6):
                    if not 0 <= sample < number:
                        self.check(window, hop, [4, 8, -3, 5, 6, 1], bent, number)
                        continue
                    kind = outcome(signal_back, window, hop, bent, number)[0]
                    self.assertEqual(kind, "value" if by % 3 == 0 else "error")
        bent = kept(frames)
        bent[1][0] += 3
        self.assertEqual(signal_back(window, hop, bent, 6), [5, 8, -3, 5, 6, 1])

    def test_not_0_where_0_is_left(self):
        for window, hop, frames in [
            ([1, -1], 1, [[0, -4], [5, 0]]), ([1, 0], 1, [None, [4, 1]]), ([3, 0], 2, [[9, 1]]),
            ([0, 1], 2, [[LONG, 0]]), ([1, -1], 1, [[0, 0], [0, 0], [0, 7], [0, 0]]),
        ]:
            self.assertEqual(outcome(signal_back, window, hop, frames, 4), ("error", InvalidList), (window, frames))
        # Beyond the samples that are asked for it does not matter.
        self.assertEqual(signal_back([3, 0], 2, [[9, 1]], 1), [3])

    def test_multiples_of_a_negative_rest(self):
        self.assertEqual(signal_back([-3], 1, [[6], [-6], [0]], 3), [-2, 2, 0])
        for entry in (1, -1, 2, 4, -5):
            self.assertEqual(outcome(signal_back, [-3], 1, [[entry]], 1), ("error", InvalidList))
            self.assertEqual(outcome(signal_back, [3], 1, [[entry]], 1), ("error", InvalidList))

    def test_frames_of_another_length(self):
        lists = [[[1]], [[1, 1, 1]], [None, [1]], [[1, 1], [1]], [[1, 1], None, [1, 1, 1]], [[0, 0]] * 799 + [[0]]]
        for frames in lists:
            for number in (1, 0, 401):
                self.assertEqual(outcome(signal_back, [1, 1], 1, frames, number), ("error", InvalidList))

    def test_limits(self):
        self.assertEqual(signal_back([1] * 200, 1, [[0] * 200] * 800, 400), [0] * 400)
        self.assertEqual(signal_back([1], 1, [None] * 800, 400), [None] * 400)
        for thing in wrong_lists_of_frames():
            for number in (1, 0, 401):
                self.assertEqual(outcome(signal_back, [1], 1, thing, number), ("error", InvalidList), thing)
        for number in WRONG_NUMBERS:
            # Ahead of sums that are wrong.
            for frames in ([[0]], [[1]]):
                self.assertEqual(outcome(signal_back, [2], 1, frames, number), ("error", InvalidNumber), number)
        for thing in some_wrong_windows():
            self.assertEqual(outcome(signal_back, thing, 0, None, 0), ("error", InvalidWindow))
        for hop in WRONG_HOPS:
            self.assertEqual(outcome(signal_back, [1], hop, None, 0), ("error", InvalidHop))


class PlainJoiner:
    """What the document says of a joiner, with all frames kept and laid anew for each question."""

    def __init__(self, hop):
        self.hop = hop
        self.frames = []

    def told(self):
        seen = len(self.frames)
        ends = [k * self.hop + len(frame) for k, frame in enumerate(self.frames) if frame is not None]
        last = max([seen * self.hop, *ends[-1:]])
        sums = plain_samples(self.frames, self.hop, 0, last)
        return (seen, tuple(sums[:seen * self.hop]), sums[seen * self.hop:], seen)


def told_by(joiner):
    return (joiner.seen, joiner.ready, joiner.pending, len(joiner))


class Joiners(unittest.TestCase):
    def test_told_by_hand(self):
        joiner = Joiner(2)
        self.assertEqual(told_by(joiner), (0, (), [], 0))
        self.assertIs(joiner.add([1, 2, 3]), None)
        self.assertEqual(told_by(joiner), (1, (1, 2), [3], 1))
        joiner.add([10, 20, 30])
        self.assertEqual(told_by(joiner), (2, (1, 2, 13, 20), [30], 2))
        self.assertIs(joiner.skip(), None)
        self.assertEqual(told_by(joiner), (3, (1, 2, 13, 20, 30, 0), [], 3))
        joiner.add([5, 6, 7])
        self.assertEqual(told_by(joiner), (4, (1, 2, 13, 20, 30, 0, 5, 6), [7], 4))
        self.assertIs(joiner.undo(), None)
        joiner.undo()
        self.assertEqual(told_by(joiner), (2, (1, 2, 13, 20), [30], 2))
        joiner.undo()
        joiner.undo()
        self.assertEqual(told_by(joiner), (0, (), [], 0))

    def test_long_frames(self):
        joiner = Joiner(1)
        joiner.add([1, 2, 3, 4])
        self.assertEqual(told_by(joiner), (1, (1,), [2, 3, 4], 1))
        joiner.skip()
        self.assertEqual(told_by(joiner), (2, (1, 2), [3, 4], 2))
        joiner.skip()
        self.assertEqual(told_by(joiner), (3, (1, 2, 3), [4], 3))
        joiner.skip()
        self.assertEqual(told_by(joiner), (4, (1, 2, 3, 4), [], 4))
        joiner.skip()
        self.assertEqual(told_by(joiner), (5, (1, 2, 3, 4, 0), [], 5))

    def test_kinds_of_what_is_told(self):
        joiner = Joiner(1)
        for _ in range(2):
            self.assertEqual([type(one) for one in told_by(joiner)], [int, tuple, list, int])
            joiner.add([1, 2])

    def test_any_calls(self):
        for hop, many in itertools.product((1, 2, 3, 7, 199, 200, 201, 1000), (1, 2, 3, 5, 200)):
            draw = random.Random(hop * 1000 + many)
            joiner, plain = Joiner(hop), PlainJoiner(hop)
            for turn in range(60 if hop < 100 else 12):
                word = draw.choice(("add", "add", "add", "skip", "undo"))
                if word == "add":
                    frame = drawn_signal(many, turn)
                    joiner.add(frame)
                    plain.frames.append(frame)
                elif word == "skip":
                    joiner.skip()
                    plain.frames.append(None)
                elif plain.frames:
                    joiner.undo()
                    plain.frames.pop()
                else:
                    self.assertEqual(outcome(joiner.undo), ("error", NothingToUndo))
                self.assertTrue(same(told_by(joiner), plain.told()), (hop, many, turn))

    def test_sixty_calls(self):
        joiner, plain = Joiner(1000), PlainJoiner(1000)
        for k in range(60):
            joiner.add([k] * 200)
            plain.frames.append([k] * 200)
        self.assertEqual(len(joiner), 60)
        self.assertEqual((len(joiner.ready), joiner.pending), (60000, []))
        self.assertEqual(joiner.ready[59000:59201], (59,) * 200 + (0,))
        for _ in range(60):
            joiner.undo()
        self.assertEqual(told_by(joiner), (0, (), [], 0))

    def test_frame_of_another_length(self):
        joiner = Joiner(2)
        joiner.skip()
        joiner.add([1, 2, 3])
        joiner.skip()
        before = told_by(joiner)
        for frame in ([1], [1, 2], [1, 2, 3, 4], [1] * 200):
            self.assertEqual(outcome(joiner.add, frame), ("error", InvalidList))
            self.assertEqual(told_by(joiner), before)
        joiner.add([4, 5, 6])
        joiner.undo()
        self.assertEqual(outcome(joiner.add, [1]), ("error", InvalidList))
        joiner.undo()
        joiner.undo()
        # No frame that was added is left, so the length is free again.
        joiner.add([9])
        self.assertEqual(told_by(joiner), (2, (0, 0, 9, 0), [], 2))
        self.assertEqual(outcome(joiner.add, [1, 2, 3]), ("error", InvalidList))

    def test_nothing_to_undo(self):
        for calls in ([], ["skip"], ["skip", "skip"]):
            joiner = Joiner(3)
            for _ in calls:
                joiner.skip()
            for _ in calls:
                joiner.undo()
            for _ in range(3):
                with self.assertRaises(NothingToUndo) as held:
                    joiner.undo()
                self.assertIs(type(held.exception), NothingToUndo)
                self.assertEqual(told_by(joiner), (0, (), [], 0))
            joiner.add([1])
            self.assertEqual(told_by(joiner), (1, (1, 0, 0), [], 1))

    def test_wrong_frames(self):
        for many in (0, 1):
            joiner = Joiner(1)
            for _ in range(many):
                joiner.add([7])
            before = told_by(joiner)
            for thing in [*wrong_lists(), [], [0] * 201, [1] * 4000]:
                held = repr(thing)
                self.assertEqual(outcome(joiner.add, thing), ("error", InvalidList), thing)
                self.assertEqual(outcome(joiner.add, frame=thing), ("error", InvalidList), thing)
                self.assertEqual(told_by(joiner), before)
                self.assertEqual(repr(thing), held)

    def test_both_sides_of_the_length(self):
        for many in (1, 2, 199, 200):
            joiner = Joiner(1)
            joiner.add(frame=[5] * many)
            self.assertEqual(told_by(joiner), (1, (5,), [5] * (many - 1), 1))
        joiner = Joiner(1)
        joiner.add([0, 0])
        self.assertEqual(told_by(joiner), (1, (0,), [0], 1))

    def test_hops(self):
        for hop in (1, 2, 999, 1000):
            joiner = Joiner(hop=hop)
            joiner.add([3])
            self.assertEqual(told_by(joiner), (1, (3,) + (0,) * (hop - 1), [], 1))
        for hop in WRONG_HOPS:
            self.assertEqual(outcome(Joiner, hop), ("error", InvalidHop))

    def test_twins_go_their_own_way(self):
        joiner = Joiner(2)
        joiner.add([1, 2, 3])
        joiner.skip()
        twin = joiner.twin()
        self.assertIs(type(twin), Joiner)
        before = told_by(joiner)
        self.assertEqual(told_by(twin), before)
        twin.add([4, 5, 6])
        self.assertEqual(told_by(joiner), before)
        self.assertEqual(told_by(twin), (3, (1, 2, 3, 0, 4, 5), [6], 3))
        joiner.undo()
        joiner.undo()
        self.assertEqual(told_by(twin), (3, (1, 2, 3, 0, 4, 5), [6], 3))
        joiner.add([8])
        self.assertEqual(told_by(joiner), (1, (8, 0), [], 1))
        for _ in range(3):
            twin.undo()
        self.assertEqual(outcome(twin.undo), ("error", NothingToUndo))
        twin.add([7, 7])
        self.assertEqual(told_by(twin), (1, (7, 7), [], 1))
        self.assertEqual(told_by(joiner), (1, (8, 0), [], 1))
        self.assertEqual(told_by(joiner.twin().twin()), told_by(joiner))

    def test_twin_of_a_new_one(self):
        joiner = Joiner(5)
        twin = joiner.twin()
        twin.skip()
        self.assertEqual((told_by(joiner), told_by(twin)), ((0, (), [], 0), (1, (0,) * 5, [], 1)))

    def test_lists_changed_afterwards(self):
        joiner = Joiner(1)
        frame = [1, 2, 3]
        joiner.add(frame)
        twin = joiner.twin()
        spoil(frame)
        spoil(joiner.pending)
        frame.clear()
        for one in (joiner, twin):
            self.assertEqual(told_by(one), (1, (1,), [2, 3], 1))
        self.assertIsNot(joiner.pending, joiner.pending)
        joiner.add([0, 0, 0])
        self.assertEqual(joiner.pending, [3, 0])

    def test_added_frames_stay_as_they_were(self):
        frame = [1, 2]
        joiner = Joiner(1)
        for _ in range(3):
            joiner.add(frame)
        self.assertEqual(frame, [1, 2])
        self.assertEqual(told_by(joiner), (3, (1, 3, 3), [2], 3))

    def test_compared_by_identity(self):
        joiner, other = Joiner(2), Joiner(2)
        self.assertFalse(joiner == other)
        self.assertTrue(joiner != other)
        self.assertFalse(joiner == joiner.twin())
        self.assertTrue(joiner == joiner)
        self.assertEqual(len({joiner, other, joiner.twin()}), 3)
        self.assertFalse(joiner == told_by(joiner))

    def test_properties_are_not_assigned(self):
        joiner = Joiner(1)
        for name in ("seen", "ready", "pending"):
            with self.assertRaises(AttributeError):
                setattr(joiner, name, 5)

    def test_joined_frames_of_a_signal(self):
        for window, hop in [([1, 2, 2, 1], 2), ([1] * 9, 3), ([1, 1, 1], 5)]:
            signal = drawn_signal(90)
            frames = frames_of(window, hop, signal)
            joiner = Joiner(hop)
            for frame in frames[:50]:
                joiner.add(frame)
            sums = samples_of(frames[:50], hop, 0, 400)
            told = [*joiner.ready, *joiner.pending][:400]
            self.assertEqual(told + [0] * (400 - len(told)), sums)
            self.assertEqual(lists_in(joiner.ready), [])


if __name__ == "__main__":
    unittest.main()
