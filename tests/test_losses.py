"""[15]: what lost frames cost."""

import itertools
import math
import random
import unittest

from frameseams.errors import InvalidHop, InvalidList, InvalidNumber, InvalidWindow, NotEven
from frameseams.losses import fewest_harm, least_left, least_left_run, left_sums
from frameseams.windows import flat_window, product_of
from helpers import (
    LONG, least_uneven, outcome, plain_hops, plain_product, plain_sums, some_wrong_windows, wrong_lists, wrong_windows,
)

AT_LOST = [least_left, least_left_run]
WRONG_HOPS = [0, -1, 1001, 1002, LONG, -LONG, True, False]
WRONG_LOST = [-1, -400, 401, 402, LONG, -LONG, True, False]
# Windows with the hop at which they are even: negative entries, zeros, entries that make fewer neighbours worse.
EVEN = [
    ([1], 1), ([-4], 1), ([1, 2, 2, 1], 2), ([1, 2, 2, 1], 3), ([1, 2, 2, 1], 1), ([1, 1, 1, 1], 2),
    ([1, -1, -1, 1], 2), ([-1, 5, -1, 5, -1], 1), ([5, -1, 5], 1), ([3, -2, 0, 0, 1, 4, -1, 1], 2), ([0, 1, 1, 0], 2),
    ([1, 0, 0, 0, 0, 1], 1), ([-2, 7, -2, 7, -9, 1, 1, 3], 1), ([2, 0, -1, 2, 4, 3], 2),
    ([2, -3, 0, 1, -1, 4, 0, 7], 1), ([-1, -1, -2, -2], 2), ([LONG, -LONG, 1, 1, 2 * LONG + 1, LONG], 3),
    ([4, -1, 4, 0, 0, 9], 2), ([1, -1, 0], 1), ([9, -1, -1, 9, -1, -1, 9, -1], 1),
]


def is_even(window, hop):
    return len(set(plain_sums(window, hop))) == 1


def frames_around(window, hop, sample):
    """The numbers of all frames near the sample, those that lie beside it, too."""
    reach = len(window) // hop + 2
    return range(sample // hop - reach, sample // hop + reach + 1)


def plain_left(window, hop, lost, sample):
    """The sum at the sample of all frames that are not lost, by laying each frame that is near."""
    total = 0
    for frame in frames_around(window, hop, sample):
        if frame not in lost and 0 <= sample - frame * hop < len(window):
            total += window[sample - frame * hop]
    return total


def least_by_trying(window, hop, lost):
    """Over all choices of so many frames near one sample of each rest."""
    return min(
        plain_left(window, hop, chosen, sample)
        for sample in range(hop) for chosen in itertools.combinations(frames_around(window, hop, sample), lost)
    )


def least_run_by_trying(window, hop, lost):
    """Over all runs of so many neighbours that end near one sample of each rest, or begin there."""
    return min(
        plain_left(window, hop, range(begin, begin + lost), sample)
        for sample in range(hop)
        for begin in range(min(frames_around(window, hop, sample)) - lost, max(frames_around(window, hop, sample)) + 1)
    )


def drawn_even(seed, hop, many, entries):
    draw = random.Random(seed)
    factor = [draw.choice(entries) for _ in range(many)]
    factor[-1] = entries[0]
    return product_of(flat_window(hop), factor)


class LeastLeft(unittest.TestCase):
    def test_told_by_hand(self):
        for window, hop, lost, left, left_run in [
            ([1], 1, 0, 1, 1), ([1], 1, 1, 0, 0), ([1], 1, 400, 0, 0), ([1, 2, 2, 1], 2, 0, 3, 3),
            ([1, 2, 2, 1], 2, 1, 1, 1), ([1, 2, 2, 1], 2, 2, 0, 0), ([1, 2, 2, 1], 3, 1, 0, 0), ([-4], 1, 0, -4, -4),
            ([-4], 1, 3, -4, -4), ([5, -1, 5], 1, 1, 4, 4), ([5, -1, 5], 1, 2, -1, 4), ([5, -1, 5], 1, 3, -1, 0),
            ([5, -1, 5], 1, 400, -1, 0), ([-1, 5, -1, 5, -1], 1, 1, 2, 2), ([-1, 5, -1, 5, -1], 1, 2, -3, 3),
            ([-1, 5, -1, 5, -1], 1, 3, -3, -2), ([1, -1, -1, 1], 2, 1, -1, -1), ([-1, -1, -2, -2], 2, 2, -3, -3),
            ([1, 0, 0, 0, 0, 1], 1, 5, 0, 1), ([1, 0, 0, 0, 0, 1], 1, 6, 0, 0), ([LONG, LONG], 2, 1, 0, 0),
            ([3, 3, -1, -1, 3, 3], 2, 2, -1, 2), ([3, 3, -1, -1, 3, 3], 2, 1, 2, 2),
        ]:
            self.assertEqual(least_left(window, hop, lost), left, (window, hop, lost))
            self.assertEqual(least_left_run(window, hop, lost), left_run, (window, hop, lost))

    def test_against_all_choices(self):
        for window, hop in EVEN:
            self.assertTrue(is_even(window, hop), (window, hop))
            for lost in range(5):
                expected = least_by_trying(window, hop, lost)
                self.assertEqual(least_left(window, hop, lost), expected, (window, hop, lost))

    def test_runs_against_all_runs(self):
        for window, hop in EVEN:
            for lost in [*range(12), 400]:
                expected = least_run_by_trying(window, hop, lost)
                self.assertEqual(least_left_run(window, hop, lost), expected, (window, hop, lost))

    def test_all_small_windows(self):
        for many in (1, 2, 3, 4):
            for entries in itertools.product((-2, 0, 1, 3), repeat=many):
                for hop in range(1, many + 1):
                    if any(entries) and is_even(entries, hop):
                        for lost in (0, 1, 2, 5):
                            window, case = [*entries], (entries, hop, lost)
                            self.assertEqual(least_left_run(window, hop, lost), least_run_by_trying(*case), case)
                            if lost < 3:
                                self.assertEqual(least_left(window, hop, lost), least_by_trying(*case), case)

    def test_long_windows(self):
        for seed, (hop, many) in enumerate([(1, 200), (2, 199), (7, 150), (64, 100), (100, 101), (199, 2), (200, 1)]):
            window = drawn_even(seed, hop, many, (3, -1, 0, 5, -2, LONG))
            level = plain_sums(window, hop)[0]
            for lost in (0, 1, 2, 3, 50, 199, 200, 201, 399, 400):
                rests = [sorted(window[rest::hop], reverse=True) for rest in range(hop)]
                expected = level - max(sum(max(0, entry) for entry in entries[:lost]) for entries in rests)
                self.assertEqual(least_left(window, hop, lost), expected)
                self.assertEqual(least_left_run(window, hop, lost), self.plain_run(window, hop, level, lost))

    def plain_run(self, window, hop, level, lost):
        """By the sums of the entries ahead, for every place at which a run may begin."""
        greatest = 0
        for rest in range(hop):
            entries = window[rest::hop]
            ahead = [0, *itertools.accumulate(entries)]
            for begin in range(-lost, len(entries) + 1):
                first, last = max(0, begin), min(len(entries), max(0, begin + lost))
                greatest = max(greatest, ahead[last] - ahead[min(first, last)])
        return level - greatest

    def test_as_many_as_lie_on_a_sample_and_more(self):
        # Without negative entries nothing is left from there on.
        for window, hop, many in [([1, 2, 2, 1], 2, 2), ([1] * 200, 1, 200), ([1] * 200, 50, 4), ([3, 3, 0, 0], 2, 2)]:
            for call in AT_LOST:
                self.assertEqual([call(window, hop, lost) for lost in (many, many + 1, 400)], [0, 0, 0])
        self.assertEqual(least_left([1] * 200, 1, 199), 1)
        self.assertEqual(least_left_run([1] * 200, 50, 3), 1)

    def test_neighbours_beside_the_sample(self):
        # Every run on a sample makes the sum greater, or takes nothing away.
        for window, hop in [([-4], 1), ([-1, -1, -2, -2], 2), ([-1, 0, -1], 1), ([-3, 1, -3], 1)]:
            for lost in (2, 3, 400):
                level = plain_sums(window, hop)[0]
                self.assertEqual(least_left_run(window, hop, lost), level, (window, hop, lost))

    def test_both_sides_of_lost(self):
        for call in AT_LOST:
            self.assertEqual(call([2, 2], 2, 0), 2)
            self.assertEqual(call([2, 2], 2, 400), 0)
            for lost in WRONG_LOST:
                # Ahead of a window that is not even.
                for window in ([2, 2], [1, 2]):
                    self.assertEqual(outcome(call, window, 2, lost), ("error", InvalidNumber), lost)


class FewestHarm(unittest.TestCase):
    def test_told_by_hand(self):
        for window, hop, many in [
            ([1], 1, 1), ([1, 2, 2, 1], 2, 2), ([1, 2, 2, 1], 3, 1), ([1, 2, 2, 1], 1, 4), ([0, 1, 1, 0], 2, 1),
            ([1, 0, 2, 0, 0, 3], 1, 3), ([1, 3, 1, 0, 1, 0], 2, 1), ([0, 0, 1, 1], 2, 1), ([LONG, LONG], 2, 1),
            ([1] * 200, 1, 200), ([1] * 200, 200, 1), ([1, 0] * 100, 1, 100), ([1, 1, 0, 1, 1, 0], 1, 4),
        ]:
            self.assertEqual(fewest_harm(window, hop), many, (window, hop))

    def test_against_trying(self):
        for many in (1, 2, 3, 4, 5):
            for entries in itertools.product((0, 1, 3), repeat=many):
                for hop in range(1, many + 1):
                    if any(entries) and is_even(entries, hop):
                        self.check(entries, hop)

    def check(self, entries, hop):
        lost = 0
        while least_by_trying(entries, hop, lost) != 0:
            lost += 1
        self.assertEqual(fewest_harm([*entries], hop), lost, (entries, hop))
        self.assertEqual(least_left([*entries], hop, lost), 0)
        self.assertGreater(least_left([*entries], hop, lost - 1), 0)

    def test_long_windows(self):
        for seed, (hop, many) in enumerate([(1, 200), (2, 199), (7, 150), (64, 100), (100, 101), (200, 1)]):
            window = drawn_even(seed, hop, many, (3, 0, 0, LONG))
            fewest = min(len([entry for entry in window[rest::hop] if entry]) for rest in range(hop))
            self.assertEqual(fewest_harm(window, hop), fewest)

    def test_a_negative_entry(self):
        for window in ([-1], [1, -1], [5, -1, 5], [1, -1, -1, 1], [3] * 199 + [-LONG], [-1] + [1] * 199):
            for hop in (1, 2, 3, 200, 1000, *WRONG_HOPS):
                # Ahead of a window that is not even, and of a wrong hop.
                self.assertEqual(outcome(fewest_harm, window, hop), ("error", InvalidWindow), (window, hop))


class LeftSums(unittest.TestCase):
    def check(self, window, hop, lost, begin, end):
        expected = [plain_left(window, hop, lost, sample) for sample in range(begin, end)]
        self.assertEqual(left_sums(window, hop, lost, begin, end), expected, (window, hop, lost, begin, end))

    def test_told_by_hand(self):
        for window, hop, lost, begin, end, sums in [
            ([1, 2, 2, 1], 2, [], 0, 4, [3, 3, 3, 3]), ([1, 2, 2, 1], 2, [0], 0, 4, [2, 1, 1, 2]),
            ([1, 2, 2, 1], 2, [0], -3, 6, [3, 3, 3, 2, 1, 1, 2, 3, 3]),
            ([1, 2, 2, 1], 2, [-1, 0], -2, 4, [2, 1, 0, 0, 1, 2]), ([1, 2, 2, 1], 2, [0, 5], 3, 3, []),
            ([1, 2], 3, [], 0, 6, [1, 2, 0, 1, 2, 0]), ([5], 4, [1], 0, 9, [5, 0, 0, 0, 0, 0, 0, 0, 5]),
            ([1, 2, 3], 1, [7], 5, 11, [6, 6, 5, 4, 3, 6]), ([1, -1], 1, [], -2, 2, [0, 0, 0, 0]),
        ]:
            self.assertEqual(left_sums(window, hop, lost, begin, end), sums)

    def test_against_plain_laying(self):
        windows = EVEN + [([1, 2, 3], 2), ([1, 2, 3], 5), ([7, -1], 1), ([0, 0, 4], 2), ([LONG, 1], 3), ([1] * 5, 1000)]
        for window, hop in windows:
            for lost in ([], [0], [-1, 0, 1], [-7, -2, 3, 4, 9], [1000], list(range(-30, 30))):
                for begin, end in [(0, 0), (0, 1), (-11, 9), (5, 40), (-60, -20), (1999, 2005), (-3, -3)]:
                    self.check(window, hop, lost, begin, end)

    def test_single_samples(self):
        for window, hop in [([1, 2, 2, 1], 2), ([1, 2, 3, 4, 5], 3), ([1, 2], 5), ([3], 1)]:
            for sample in range(-15, 16):
                for lost in ([], [-1], [0], [-2, 1, 2]):
                    self.check(window, hop, lost, sample, sample + 1)

    def test_levels_without_losses(self):
        for window, hop in EVEN:
            level = plain_sums(window, hop)[0]
            for begin in (0, -200, LONG, -LONG):
                self.assertEqual(left_sums(window, hop, [], begin, begin + 400), [level] * 400)

    def test_frames_far_away(self):
        window, hop = [1, 2, 3, 4, 5, 6, 7], 3
        far = 10 ** 29 // hop
        begin = far * hop - 4
        sums = left_sums(window, hop, [far - 1, far], begin, begin + 15)
        self.assertEqual(sums, left_sums(window, hop, [-1, 0], -4, 11))
        self.assertNotEqual(sums, left_sums(window, hop, [], -4, 11))
        self.assertEqual(left_sums(window, hop, [-LONG, LONG], 0, 9), left_sums(window, hop, [], 0, 9))

    def test_lists_of_400_lost_frames(self):
        window = [1, 2, 2, 1]
        self.assertEqual(left_sums(window, 2, list(range(400)), 2, 402), [0] * 400)
        self.assertEqual(left_sums(window, 1, list(range(-200, 200)), -197, 200), [0] * 397)
        self.check(window, 2, list(range(0, 800, 2)), 100, 300)
        for lost in (list(range(401)), list(range(4000)), [0] * 401):
            self.assertEqual(outcome(left_sums, window, 2, lost, 0, 1), ("error", InvalidList))

    def test_lists_that_do_not_ascend(self):
        for lost in ([0, 0], [1, 0], [-1, -2], [0, 1, 1], [0, 2, 1], [5, 6, 7, 7], [LONG, -LONG], [1, 2, 3, 0]):
            self.assertEqual(outcome(left_sums, [1, 1], 2, lost, 0, 5), ("error", InvalidList), lost)
        for lost in wrong_lists():
            for begin, end in [(0, 5), (5, 0), (0, 401)]:
                self.assertEqual(outcome(left_sums, [1, 1], 2, lost, begin, end), ("error", InvalidList), lost)

    def test_both_sides_of_the_samples(self):
        for begin in (0, -1, -400, 77, LONG, -LONG):
            self.assertEqual(left_sums([1, 1], 2, [], begin, begin), [])
            self.assertEqual(left_sums([1, 1], 2, [], begin, begin + 1), [1])
            self.assertEqual(left_sums([1, 1], 2, [], begin, begin + 400), [1] * 400)
            for end in (begin - 1, begin - 400, begin + 401, begin + 402, begin + LONG, begin - LONG):
                self.assertEqual(outcome(left_sums, [1, 1], 2, [], begin, end), ("error", InvalidNumber))
        for wrong in (True, False):
            self.assertEqual(outcome(left_sums, [1, 1], 2, [], wrong, 1), ("error", InvalidNumber))
            self.assertEqual(outcome(left_sums, [1, 1], 2, [], 0, wrong), ("error", InvalidNumber))
            self.assertEqual(outcome(left_sums, [1, 1], 2, [], wrong, wrong), ("error", InvalidNumber))

    def test_least_of_all_left_sums(self):
        # What least_left promises is left somewhere, and no less, where the lost frames are chosen among the nearest.
        window, hop = [1, 4, 0, 3, 2, -1, 3, 0], 2
        self.assertTrue(is_even(window, hop))
        for lost in (1, 2, 3):
            sums = [left_sums(window, hop, [*few], 0, 6) for few in itertools.combinations(range(-4, 3), lost)]
            self.assertEqual(min(min(one) for one in sums), least_left(window, hop, lost))


class WrongArguments(unittest.TestCase):
    def test_not_even(self):
        windows = [[1, 2], [1, 2, 2, 1], [1, 1, 1], [5], [0, 0, 1], [3, 1, 1, 1], [1, 1, 1, 2], [1] * 199]
        for window in windows:
            for hop in (2, 3, 4, 7, 200, 1000):
                pair = least_uneven(window, hop)
                for call, more in [(least_left, (0,)), (least_left, (400,)), (least_left_run, (1,)), (fewest_harm, ())]:
                    if pair is None:
                        self.assertEqual(outcome(call, window, hop, *more)[0], "value")
                        continue
                    with self.assertRaises(NotEven) as held:
                        call(window, hop, *more)
                    self.assertIs(type(held.exception), NotEven)
                    self.assertEqual((held.exception.rest, held.exception.other), pair)
                self.assertEqual(outcome(left_sums, window, hop, [], 0, 3)[0], "value")

    def test_wrong_windows(self):
        for thing in wrong_windows():
            for hop in (1, 0, 1001):
                for lost in (0, -1):
                    for call in AT_LOST:
                        self.assertEqual(outcome(call, thing, hop, lost), ("error", InvalidWindow))
                self.assertEqual(outcome(fewest_harm, thing, hop), ("error", InvalidWindow))
                self.assertEqual(outcome(left_sums, thing, hop, [1, 0], 1, 0), ("error", InvalidWindow))

    def test_wrong_hops(self):
        for window, hop in itertools.product(([1], [1, 1], [1, 2]), WRONG_HOPS):
            for call, lost in itertools.product(AT_LOST, (0, -1, 401, True)):
                self.assertEqual(outcome(call, window, hop, lost), ("error", InvalidHop), hop)
            self.assertEqual(outcome(fewest_harm, window, hop), ("error", InvalidHop), hop)
            for lost in ([], [1, 0], None):
                self.assertEqual(outcome(left_sums, window, hop, lost, 1, 0), ("error", InvalidHop), hop)

    def test_the_first_wrong_one_decides(self):
        for thing in some_wrong_windows():
            self.assertEqual(outcome(left_sums, thing, True, None, True, True), ("error", InvalidWindow))
        self.assertEqual(outcome(left_sums, [1], 1, (0,), True, True), ("error", InvalidList))
        self.assertEqual(left_sums([1], 1000, [], 999, 1001), [0, 1])


if __name__ == "__main__":
    unittest.main()
