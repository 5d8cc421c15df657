"""[10]: how many even windows of small numbers there are, and their sequence."""

import itertools
import random
import unittest

from frameseams.counts import count_at_level, count_even, even_index, nth_even
from frameseams.errors import InvalidHop, InvalidIndex, InvalidNumber, InvalidWindow, NotEven
from frameseams.rests import level_at
from helpers import LONG, least_uneven, outcome, plain_sums, some_wrong_windows, wrong_windows

# Lengths, greatest entries and hops for which all lists can be gone over.
SMALL = [
    (length, hop, most)
    for length, greatest in [(1, 6), (2, 6), (3, 5), (4, 4), (5, 3), (6, 2), (7, 2), (9, 1), (10, 1)]
    for most in range(1, greatest + 1)
    for hop in [*range(1, length + 3), 1000]
]
WRONG_HOPS = [0, -1, 1001, 1002, LONG, -LONG, True, False]
WRONG_LENGTHS = [0, -1, 41, 42, LONG, -LONG, True, False]
WRONG_MOSTS = [0, -1, 31, 32, LONG, -LONG, True, False]


def all_even(length, hop, most):
    """All even windows, in the ascending sequence of lists."""
    lists = [[*entries] for entries in itertools.product(range(most + 1), repeat=length)]
    return [one for one in lists if any(one) and len(set(plain_sums(one, hop))) == 1]


class AgainstAllLists(unittest.TestCase):
    def test_count_even(self):
        for length, hop, most in SMALL:
            self.assertEqual(count_even(length, hop, most), len(all_even(length, hop, most)), (length, hop, most))

    def test_count_at_level(self):
        for length, hop, most in SMALL:
            levels = [plain_sums(one, hop)[0] for one in all_even(length, hop, most)]
            for level in range(-2, most * length + 3):
                self.assertEqual(count_at_level(length, hop, most, level), levels.count(level), (length, hop, most))

    def test_nth_even(self):
        for length, hop, most in SMALL:
            windows = all_even(length, hop, most)
            if len(windows) < 300:
                for index, window in enumerate(windows):
                    self.assertEqual(nth_even(length, hop, most, index), window, (length, hop, most, index))
            for index in (-1, len(windows), len(windows) + 1):
                self.assertEqual(outcome(nth_even, length, hop, most, index), ("error", InvalidIndex))

    def test_even_index(self):
        for length, hop, most in SMALL:
            windows = all_even(length, hop, most)
            if len(windows) < 300:
                for index, window in enumerate(windows):
                    self.assertEqual(even_index(window, hop, most), index, (window, hop, most))


class Counts(unittest.TestCase):
    def test_told_by_hand(self):
        for length, hop, most, many in [
            (1, 1, 1, 1), (1, 1, 30, 30), (1, 2, 30, 0), (2, 1, 1, 3), (2, 2, 1, 1), (2, 2, 30, 30), (3, 2, 1, 3 - 1),
            (40, 40, 30, 30), (40, 41, 30, 0), (40, 1000, 30, 0), (40, 1, 30, 31 ** 40 - 1), (40, 1, 1, 2 ** 40 - 1),
            (4, 2, 1, 1 + 4), (40, 20, 1, 2 ** 20 + 1),
        ]:
            self.assertEqual(count_even(length, hop, most), many, (length, hop, most))

    def test_two_entries_for_each_rest(self):
        # Two integers from 0 to 30 have the sum s in s + 1 ways up to 30, and in 61 - s ways beyond.
        ways = [min(level + 1, 61 - level) for level in range(61)]
        for level in range(1, 61):
            self.assertEqual(count_at_level(40, 20, 30, level), ways[level] ** 20)
        self.assertEqual(count_even(40, 20, 30), sum(number ** 20 for number in ways[1:]))

    def test_levels_at_the_ends(self):
        for length, hop, most, greatest in [
            (40, 1, 30, 1200), (40, 13, 30, 90), (40, 40, 30, 30), (7, 3, 5, 10), (1, 1, 1, 1), (39, 20, 2, 2),
        ]:
            case = (length, hop, most)
            for level in (0, -1, -2, -1200, -LONG, greatest + 1, greatest + 2, 2000, LONG):
                self.assertEqual(count_at_level(*case, level), 0, (case, level))
            self.assertGreater(count_at_level(*case, greatest), 0)
            self.assertGreater(count_at_level(*case, 1), 0)
            levels = [count_at_level(*case, level) for level in range(-1, greatest + 2)]
            self.assertEqual(sum(levels), count_even(*case))
        # At 13 the rest 0 has four numbers, and each other one three, which have the sum 90 in one way.
        self.assertEqual(count_at_level(40, 13, 30, 90), count_of_four(90))

    def test_hops_beyond_the_length(self):
        for length in (1, 2, 39, 40):
            for hop in (length + 1, length + 2, 999, 1000):
                self.assertEqual(count_even(length, hop, 30), 0)
                for level in (-1, 0, 1, 30, LONG):
                    self.assertEqual(count_at_level(length, hop, 30, level), 0)
                self.assertEqual(outcome(nth_even, length, hop, 30, 0), ("error", InvalidIndex))


def count_of_four(level):
    """How many lists of four integers from 0 to 30 have the sum."""
    return sum(1 for three in itertools.product(range(31), repeat=3) if 0 <= level - sum(three) <= 30)


class ThereAndBack(unittest.TestCase):
    CASES = [
        (40, 1, 30), (40, 2, 30), (40, 3, 30), (40, 7, 29), (40, 20, 30), (40, 21, 30), (40, 39, 30), (40, 40, 30),
        (39, 1, 1), (39, 13, 30), (31, 4, 2), (40, 8, 1), (25, 5, 10), (1, 1, 30), (2, 1, 30), (17, 6, 12),
    ]

    def test_first_and_last_one(self):
        for length, hop, most in self.CASES:
            many = count_even(length, hop, most)
            # The last one has the greatest entries that it can; with full rests the first one has the level 1.
            self.assertEqual(level_at(nth_even(length, hop, most, 0), hop), 1)
            for index in (0, many - 1):
                self.check_index(length, hop, most, index)
            for index in (-1, -2, -many, many, many + 1, 2 * many):
                self.assertEqual(outcome(nth_even, length, hop, most, index), ("error", InvalidIndex))
        self.assertEqual(nth_even(40, 1, 30, 0), [0] * 39 + [1])
        self.assertEqual(nth_even(40, 1, 30, 31 ** 40 - 2), [30] * 40)
        self.assertEqual(nth_even(40, 2, 1, count_even(40, 2, 1) - 1), [1] * 40)
        self.assertEqual(nth_even(40, 20, 30, 0), [0] * 20 + [1] * 20)
        self.assertEqual(nth_even(3, 2, 1, 0), [0, 1, 1])
        self.assertEqual(nth_even(3, 2, 1, 1), [1, 1, 0])

    def test_some_indices(self):
        draw = random.Random(40)
        for length, hop, most in self.CASES:
            many = count_even(length, hop, most)
            before = None
            for index in sorted(draw.randrange(many) for _ in range(6)):
                window = self.check_index(length, hop, most, index)
                if before is not None and before[0] < index:
                    self.assertLess(before[1], window)
                before = (index, window)

    def test_neighbours(self):
        for length, hop, most in self.CASES[1:8]:
            many = count_even(length, hop, most)
            for index in (0, many // 2, many - 3):
                windows = [self.check_index(length, hop, most, index + more) for more in range(3)]
                self.assertTrue(windows[0] < windows[1] < windows[2])

    def check_index(self, length, hop, most, index):
        window = nth_even(length, hop, most, index)
        self.assertEqual(len(window), length)
        self.assertTrue(all(0 <= entry <= most for entry in window))
        self.assertIsNone(least_uneven(window, hop))
        self.assertEqual(even_index(window, hop, most), index)
        return window

    def test_equal_entries(self):
        self.assertEqual(even_index([0] * 39 + [1], 1, 30), 0)
        self.assertEqual(even_index([30] * 40, 1, 30), 31 ** 40 - 2)
        for level in range(1, 31):
            self.assertEqual(even_index([level] * 40, 40, 30), level - 1)
            self.assertEqual(nth_even(40, 40, 30, level - 1), [level] * 40)


class Limits(unittest.TestCase):
    def test_both_sides(self):
        for length, most in itertools.product((1, 2, 39, 40), (1, 2, 29, 30)):
            self.assertEqual(outcome(count_even, length, 1, most), ("value", (most + 1) ** length - 1))
            self.assertEqual(outcome(nth_even, length, 1, most, 0), ("value", [0] * (length - 1) + [1]))
            self.assertEqual(outcome(count_at_level, length, 1, most, 1), ("value", length))
            self.assertEqual(outcome(even_index, [1] + [0] * (length - 1), 1, most)[0], "value")

    def test_wrong_lengths(self):
        # No subTest: the first failure ends the test, ahead of the long numbers that would take long if they passed.
        for length in WRONG_LENGTHS:
            self.assertEqual(outcome(count_even, length, 0, 0), ("error", InvalidNumber), length)
            self.assertEqual(outcome(count_even, length, 1, 1), ("error", InvalidNumber), length)
            self.assertEqual(outcome(count_at_level, length, 0, 1, 1), ("error", InvalidNumber), length)
            self.assertEqual(outcome(nth_even, length, 1, 1, -1), ("error", InvalidNumber), length)

    def test_wrong_hops(self):
        for hop in WRONG_HOPS:
            self.assertEqual(outcome(count_even, 40, hop, 31), ("error", InvalidHop), hop)
            self.assertEqual(outcome(count_at_level, 1, hop, 0, 1), ("error", InvalidHop), hop)
            self.assertEqual(outcome(nth_even, 1, hop, 1, -1), ("error", InvalidHop), hop)
            self.assertEqual(outcome(even_index, [1, 2], hop, 30), ("error", InvalidHop), hop)
            # Ahead of what the entries and their number say.
            self.assertEqual(outcome(even_index, [1] * 41, hop, 30), ("error", InvalidHop), hop)
            self.assertEqual(outcome(even_index, [-1, 31], hop, 0), ("error", InvalidHop), hop)

    def test_wrong_mosts(self):
        for most in WRONG_MOSTS:
            self.assertEqual(outcome(count_even, 1, 1, most), ("error", InvalidNumber), most)
            self.assertEqual(outcome(count_at_level, 1, 1, most, 1), ("error", InvalidNumber), most)
            self.assertEqual(outcome(nth_even, 1, 1, most, -1), ("error", InvalidNumber), most)
            self.assertEqual(outcome(even_index, [1, 1], 2, most), ("error", InvalidNumber), most)
            self.assertEqual(outcome(even_index, [1] * 41, 1, most), ("error", InvalidNumber), most)
            self.assertEqual(outcome(even_index, [-1, 1], 2, most), ("error", InvalidNumber), most)

    def test_wrong_levels(self):
        for level in (True, False):
            self.assertEqual(outcome(count_at_level, 2, 2, 2, level), ("error", InvalidNumber))

    def test_wrong_indices(self):
        for index in (-1, -2, 30, 31, LONG, -LONG, True, False):
            self.assertEqual(outcome(nth_even, 40, 40, 30, index), ("error", InvalidIndex))
        for index in (0, 1, 29):
            self.assertEqual(outcome(nth_even, 40, 40, 30, index), ("value", [index + 1] * 40))


class WindowsThatAreNotAmongThem(unittest.TestCase):
    def test_no_windows(self):
        for thing in wrong_windows():
            for hop, most in ((1, 1), (0, 0), (1, 31)):
                self.assertEqual(outcome(even_index, thing, hop, most), ("error", InvalidWindow))

    def test_more_than_40_entries(self):
        self.assertEqual(outcome(even_index, [1] * 40, 40, 1), ("value", 0))
        for many in (41, 42, 80, 200):
            for hop in (1, 2, 3, many, 1000):
                self.assertEqual(outcome(even_index, [1] * many, hop, 1), ("error", InvalidWindow))

    def test_entries_beyond_most(self):
        for window, most in [
            ([-1, 1], 30), ([1, -1], 30), ([2, 2], 1), ([2, 1], 1), ([1, 2], 1), ([31, 31], 30), ([LONG, LONG], 30),
            ([-LONG], 30), ([3] * 40, 2), ([0, 0, 0, 6], 5), ([-1, -1], 1),
        ]:
            for hop in (1, 2, 3, 1000):
                self.assertEqual(outcome(even_index, window, hop, most), ("error", InvalidWindow), (window, hop))
        self.assertEqual(outcome(even_index, [2, 2], 2, 2), ("value", 1))
        self.assertEqual(outcome(even_index, [30, 30], 2, 30), ("value", 29))

    def test_not_even(self):
        for window, hop, pair in [
            ([1, 2], 2, (0, 1)), ([1, 1, 1], 2, (0, 1)), ([1, 1, 1], 4, (0, 3)), ([1, 1, 2], 3, (0, 2)),
            ([1] * 40, 41, (0, 40)), ([1] * 40, 1000, (0, 40)), ([0, 0, 1], 3, (0, 2)), ([30] * 39 + [29], 2, (0, 1)),
        ]:
            with self.assertRaises(NotEven) as held:
                even_index(window, hop, 30)
            self.assertIs(type(held.exception), NotEven)
            self.assertEqual((held.exception.rest, held.exception.other), pair)

    def test_the_first_wrong_one_decides(self):
        for thing in some_wrong_windows():
            self.assertEqual(outcome(even_index, thing, 0, 0), ("error", InvalidWindow))
        self.assertEqual(outcome(even_index, [5, 1], 2, 4), ("error", InvalidWindow))
        self.assertEqual(outcome(even_index, [5, 1], 2, 5), ("error", NotEven))


if __name__ == "__main__":
    unittest.main()
