"""[7]: rest sums, and the hops at which windows are even."""

import itertools
import random
import unittest

from frameseams.errors import InvalidHop, InvalidWindow, NotEven
from frameseams.rests import greatest_hop, hops_of, is_even, level_at, rest_sums, uneven_rests
from frameseams.windows import flat_window, product_of
from helpers import (
    ENDS_AT_200, LONG, least_uneven, outcome, plain_hops, plain_sums, some_wrong_windows, wrong_windows,
)

AT_A_HOP = [rest_sums, is_even, uneven_rests, level_at]
ALONE = [hops_of, greatest_hop]
WRONG_HOPS = [0, -1, -1000, 1001, 1002, LONG, -LONG, True, False]
WINDOWS = [
    [1], [-3], [LONG], [1, 1], [1, -1], [1, 2, 2, 1], [1, 2, 3, 2, 1], [0, 1, 1, 0], [0, 0, 4], [5, 0, 0],
    [1, -1, -1, 1], [1, 1, -1, -1], [1, 0, -1], [LONG, LONG], [LONG, -LONG, 1, 2], [1] * 12, [1] * 199, [1] * 200,
    [0] * 199 + [1], ENDS_AT_200, list(range(-100, 100)), [1, -1] * 100, [2, 0] * 100, [1, 2] * 60,
]
HOPS = [1, 2, 3, 4, 5, 6, 10, 12, 13, 100, 199, 200, 201, 999, 1000]


def small_windows():
    for many in range(1, 6):
        for entries in itertools.product((-1, 0, 1, 2), repeat=many):
            if any(entries):
                yield [*entries]


def all_equal(window, hop):
    return len(set(plain_sums(window, hop))) == 1


class RestSums(unittest.TestCase):
    def test_told_by_hand(self):
        for window, hop, sums in [
            ([1, 2, 2, 1], 1, [6]), ([1, 2, 2, 1], 2, [3, 3]), ([1, 2, 2, 1], 3, [2, 2, 2]),
            ([1, 2, 2, 1], 4, [1, 2, 2, 1]), ([1, 2, 2, 1], 6, [1, 2, 2, 1, 0, 0]), ([5], 3, [5, 0, 0]),
            ([1, -1, 4, 0], 2, [5, -1]), ([LONG, 1, LONG], 2, [2 * LONG, 1]), ([0, 0, 0, 7], 2, [0, 7]),
        ]:
            self.assertEqual(rest_sums(window, hop), sums)

    def test_against_plain_sums(self):
        for window, hop in itertools.product(WINDOWS, HOPS):
            self.assertEqual(rest_sums(window, hop), plain_sums(window, hop))

    def test_small_windows_all(self):
        for window in small_windows():
            for hop in range(1, 8):
                self.assertEqual(rest_sums(window, hop), plain_sums(window, hop))


class Even(unittest.TestCase):
    def test_told_by_hand(self):
        for window, hop, even, pair in [
            ([1, 2, 2, 1], 1, True, None), ([1, 2, 2, 1], 2, True, None), ([1, 2, 2, 1], 3, True, None),
            ([1, 2, 2, 1], 4, False, (0, 1)), ([1, 2, 2, 1], 1000, False, (0, 1)),
            ([1, 1, 1], 3, True, None), ([1, 1, 1], 4, False, (0, 3)), ([1, 1, 1], 1000, False, (0, 3)),
            ([0, 0, 1], 3, False, (0, 2)), ([0, 0, 1], 5, False, (0, 2)), ([0] * 199 + [1], 200, False, (0, 199)),
            ([0] * 199 + [1], 1000, False, (0, 199)), ([5], 1, True, None), ([5], 2, False, (0, 1)),
            ([1, -1, -1, 1], 2, True, None), ([1, -1], 1, True, None), ([1, -1], 2, False, (0, 1)),
            ([1, 1, 1, 2], 4, False, (0, 3)), ([1, 1, 2, 3], 4, False, (0, 2)), ([1, 1, 1, 1, 5], 5, False, (0, 4)),
            ([LONG, LONG], 2, True, None), ([LONG, LONG + 1], 2, False, (0, 1)),
        ]:
            with self.subTest(window=window, hop=hop):
                self.assertIs(is_even(window, hop), even)
                self.assertEqual(uneven_rests(window, hop), pair)
                self.assertIs(type(uneven_rests(window, hop)), type(pair))

    def test_against_plain_sums(self):
        for window, hop in itertools.product(WINDOWS, HOPS):
            self.assertIs(is_even(window, hop), all_equal(window, hop))
            self.assertEqual(uneven_rests(window, hop), least_uneven(window, hop))

    def test_small_windows_all(self):
        for window in small_windows():
            for hop in range(1, 8):
                self.assertIs(is_even(window, hop), all_equal(window, hop))
                self.assertEqual(uneven_rests(window, hop), least_uneven(window, hop))

    def test_products_with_the_flat_window(self):
        for hop in (1, 2, 3, 6, 64, 150):
            for factor in ([1], [1, -1], [0, 2, 0], [LONG, -5, 7], list(range(1, 51))):
                window = product_of(flat_window(hop), factor)
                self.assertIs(is_even(window, hop), True)
                self.assertEqual(level_at(window, hop), sum(factor))
                self.assertIn(hop, hops_of(window))
                self.assertGreaterEqual(greatest_hop(window), hop)


class LevelAt(unittest.TestCase):
    def test_levels_told_by_hand(self):
        for window, hop, level in [
            ([1, 2, 2, 1], 1, 6), ([1, 2, 2, 1], 2, 3), ([1, 2, 2, 1], 3, 2), ([5], 1, 5), ([-5], 1, -5),
            ([1, -1], 1, 0), ([1, -1, -1, 1], 2, 0), ([LONG, LONG], 2, LONG), ([LONG, LONG], 1, 2 * LONG),
            ([3] * 200, 200, 3), ([3] * 200, 100, 6), ([0, 4, 4, 0], 2, 4), ([2, -1, 1, -1, 2, 0], 3, 1),
        ]:
            self.assertEqual(level_at(window, hop), level)

    def test_against_plain_sums(self):
        for window, hop in itertools.product(WINDOWS, HOPS):
            self.check_level(window, hop)

    def test_small_windows_all(self):
        for window in small_windows():
            for hop in range(1, 8):
                self.check_level(window, hop)

    def check_level(self, window, hop):
        pair = least_uneven(window, hop)
        if pair is None:
            self.assertEqual(level_at(window, hop), plain_sums(window, hop)[0])
            return
        with self.assertRaises(NotEven) as held:
            level_at(window, hop)
        self.assertIs(type(held.exception), NotEven)
        self.assertEqual((held.exception.rest, held.exception.other), pair)

    def test_at_hop_beyond_the_entries(self):
        for many in (1, 2, 199, 200):
            with self.assertRaises(NotEven) as held:
                level_at([1] * many, many + 1)
            self.assertEqual((held.exception.rest, held.exception.other), (0, many))


class Hops(unittest.TestCase):
    def test_told_by_hand(self):
        for window, hops in [
            ([1], [1]), ([-7], [1]), ([1, 2, 2, 1], [1, 2, 3]), ([1, -1], [1]), ([1, -1, -1, 1], [1, 2]),
            ([1] * 12, [1, 2, 3, 4, 6, 12]), ([0, 1, 1, 0], [1, 2]), ([1, 1, 2, 2, 2, 2, 1, 1], [1, 2, 3, 4, 6]),
            ([1] * 199, [1, 199]), ([1] * 200, [1, 2, 4, 5, 8, 10, 20, 25, 40, 50, 100, 200]),
            ([0] * 199 + [1], [1]), ([LONG] * 6, [1, 2, 3, 6]), ([0, 0, 1, 1, 1], [1, 3]),
        ]:
            self.assertEqual(hops_of(window), hops)
            self.assertEqual(greatest_hop(window), hops[-1])

    def test_against_plain_sums_at_all_hops(self):
        for window in WINDOWS:
            self.assertEqual(hops_of(window), plain_hops(window))
            self.assertEqual(greatest_hop(window), plain_hops(window)[-1])

    def test_small_windows_all(self):
        for window in small_windows():
            plain = [hop for hop in range(1, 9) if all_equal(window, hop)]
            self.assertEqual(hops_of(window), plain)
            self.assertEqual(greatest_hop(window), plain[-1])

    def test_products_of_several_flat_windows(self):
        draw = random.Random(20)
        for _ in range(60):
            window = [draw.choice((-3, -1, 1, 2, LONG)) for _ in range(draw.randint(1, 20))]
            for _ in range(draw.randint(1, 3)):
                window = product_of(window, flat_window(draw.randint(1, 40)))
            self.assertEqual(hops_of(window), plain_hops(window))
            self.assertEqual(greatest_hop(window), plain_hops(window)[-1])


class WrongArguments(unittest.TestCase):
    def test_wrong_windows(self):
        for thing in wrong_windows():
            for call in AT_A_HOP:
                for hop in (1, 2, 1000):
                    with self.subTest(call=call.__name__, thing=thing):
                        self.assertEqual(outcome(call, thing, hop), ("error", InvalidWindow))
            for call in ALONE:
                with self.subTest(call=call.__name__, thing=thing):
                    self.assertEqual(outcome(call, thing), ("error", InvalidWindow))

    def test_wrong_hops(self):
        # No subTest: the first failure ends the test, ahead of the long hops that would take long if they passed.
        for call, hop in itertools.product(AT_A_HOP, WRONG_HOPS):
            for window in ([1], [1, 2], [1, -1], [1] * 200):
                self.assertEqual(outcome(call, window, hop), ("error", InvalidHop), (call.__name__, hop))

    def test_greatest_hop_that_may_be_passed(self):
        self.assertEqual(rest_sums([4], 1000), [4] + [0] * 999)
        self.assertIs(is_even([4], 1000), False)
        self.assertEqual(uneven_rests([4], 1000), (0, 1))
        self.assertEqual(outcome(level_at, [4], 1000), ("error", NotEven))

    def test_the_first_wrong_one_decides(self):
        for call, thing, hop in itertools.product(AT_A_HOP, some_wrong_windows(), WRONG_HOPS):
            self.assertEqual(outcome(call, thing, hop), ("error", InvalidWindow))


if __name__ == "__main__":
    unittest.main()
