"""[9]: mark lists, shortest windows for hops, and quotients by them."""

import itertools
import random
import unittest

from frameseams.divisors import common_hops, least_window, mark_list, quotient, quotient_by, sight, unseen
from frameseams.errors import InvalidHop, InvalidHops, InvalidNumber, InvalidWindow, NotEven
from frameseams.marks import marks_of
from frameseams.rests import hops_of, is_even
from frameseams.windows import flat_window, is_window, product_of
from helpers import (
    LONG, least_uneven, outcome, plain_divisors, plain_phi, plain_product, plain_sums, some_wrong_windows,
    wrong_lists_of_hops, wrong_windows,
)

PHIS = {mark: plain_phi(mark) for mark in range(1, 1001)}
HOPS = [
    [1], [2], [3], [7], [12], [64], [97], [199], [200], [1, 1], [1, 2], [2, 2], [2, 3], [3, 2], [4, 6], [6, 4],
    [2, 3, 5], [5, 3, 2], [6, 10, 15], [10, 6, 15], [12, 8, 4], [16, 1, 9], [30, 42, 70, 105], [105, 70, 42, 30],
    [2, 3, 5, 7, 11], [13, 13, 13, 13], [4, 6, 9, 10, 15, 25], [25, 10, 4, 15, 9, 6], [1, 1, 1, 1, 1, 1],
    [2, 4, 8, 16, 32, 64], [64, 1, 64, 1, 64, 1], [199, 2], [100, 99, 3], [180, 12], [60, 84, 90], [11, 13, 17, 19],
]
FACTORS = [[1], [-1], [LONG], [1, -1], [0, 2, 0], [3, 0, -1, LONG], [-1, 1, 1, -1]]


def plain_sight(hops):
    return 1 + sum(PHIS[divisor] for divisor in plain_divisors(hops) if divisor > 1)


def product_of_all(factors):
    product = [1]
    for factor in factors:
        product = plain_product(product, factor)
    return product


class MarkList(unittest.TestCase):
    def test_told_by_hand(self):
        for mark, entries in [
            (2, [1, 1]), (3, [1, 1, 1]), (4, [1, 0, 1]), (5, [1] * 5), (6, [1, -1, 1]), (8, [1, 0, 0, 0, 1]),
            (9, [1, 0, 0, 1, 0, 0, 1]), (10, [1, -1, 1, -1, 1]), (12, [1, 0, -1, 0, 1]), (199, [1] * 199),
            (15, [1, -1, 0, 1, -1, 1, 0, -1, 1]), (256, [1] + [0] * 127 + [1]),
        ]:
            self.assertEqual(mark_list(mark), entries)
        self.assertEqual(mark_list(105)[:9], [1, 1, 1, 0, 0, -1, -1, -2, -1])

    def test_number_of_entries(self):
        for mark in range(2, 1001):
            if PHIS[mark] <= 199:
                self.assertEqual(len(mark_list(mark)), PHIS[mark] + 1)
                self.assertEqual(mark_list(mark)[0], 1)

    def test_products_over_the_divisors(self):
        for hop in list(range(2, 201)) + [210, 256, 360, 390, 420, 480, 504, 540, 600, 630, 660, 720, 780, 840]:
            product = product_of_all([mark_list(divisor) for divisor in plain_divisors([hop]) if divisor > 1])
            self.assertEqual(product, [1] * hop)

    def test_both_sides_of_the_greatest_phi(self):
        # phi is even from 3 on, so 198 is the greatest one that is allowed, and 200 the least that is not.
        for mark in range(2, 1001):
            expected = "value" if PHIS[mark] <= 199 else "error"
            self.assertEqual(outcome(mark_list, mark)[0], expected, mark)
        for mark in (211, 401, 997, 1000, 251, 275, 303):
            self.assertEqual(outcome(mark_list, mark), ("error", InvalidNumber))
        for mark in (199, 398):
            self.assertEqual(len(mark_list(mark)), 199)

    def test_wrong_marks(self):
        for mark in (1, 0, -1, -2, 1001, 1002, 1050, LONG, -LONG, True, False):
            self.assertEqual(outcome(mark_list, mark), ("error", InvalidNumber))


class LeastWindow(unittest.TestCase):
    def test_examples_of_the_document(self):
        self.assertEqual(least_window([4, 6]), [1, 1, 2, 2, 2, 2, 1, 1])
        self.assertEqual(least_window([30, 42, 70, 105])[:6], [1, 2, 2, 1, 0, -1])

    def test_told_by_hand(self):
        for hops, window in [
            ([1], [1]), ([1, 1, 1], [1]), ([2], [1, 1]), ([2, 2], [1, 1]), ([1, 2], [1, 1]), ([2, 3], [1, 2, 2, 1]),
            ([3, 2, 1], [1, 2, 2, 1]), ([4, 2], [1] * 4), ([12, 6, 4, 3, 2, 1], [1] * 12), ([200], [1] * 200),
            ([3, 4], [1, 2, 3, 3, 2, 1]), ([6, 4], [1, 1, 2, 2, 2, 2, 1, 1]),
        ]:
            self.assertEqual(least_window(hops), window)

    def test_against_products_of_mark_lists(self):
        for hops in HOPS:
            marks = [divisor for divisor in plain_divisors(hops) if divisor > 1]
            self.assertEqual(least_window(hops), product_of_all([mark_list(mark) for mark in marks]), hops)

    def test_what_the_results_say(self):
        for hops in HOPS:
            window = least_window(hops)
            self.assertTrue(is_window(window))
            self.assertEqual(len(window), plain_sight(hops))
            self.assertEqual(window[0], 1)
            self.assertEqual(hops_of(window), plain_divisors(hops))
            self.assertEqual(marks_of(window), plain_divisors(hops)[1:])
            if len(hops) <= 3:
                self.assertGreaterEqual(min(window), 0)

    def test_any_order_and_equal_hops(self):
        for hops in ([4, 6, 9], [30, 42, 70, 105]):
            for turned in itertools.permutations(hops):
                self.assertEqual(least_window([*turned]), least_window(hops))
                self.assertEqual(least_window([*turned, turned[0], 1]), least_window(hops))

    def test_no_shorter_window_is_even_at_all(self):
        for hops in ([2, 3], [4, 6], [2, 3, 4], [5, 2], [3, 6], [4]):
            for many in range(1, plain_sight(hops)):
                for entries in itertools.product((-1, 0, 1, 2), repeat=many):
                    if any(entries):
                        self.assertTrue(any(least_uneven(entries, hop) for hop in hops))

    def test_sight(self):
        for hops in HOPS:
            self.assertEqual(sight(hops), plain_sight(hops))
        for hops, many in [([1], 1), ([4, 6], 8), ([2, 3], 4), ([30, 42, 70, 105], 162), ([200], 200), ([199, 2], 200)]:
            self.assertEqual(sight(hops), many)

    def test_common_hops(self):
        for hops in HOPS:
            self.assertEqual(common_hops(hops), plain_divisors(hops))
        for hops, common in [
            ([1], [1]), ([1, 1], [1]), ([4, 6], [1, 2, 3, 4, 6]), ([6, 4], [1, 2, 3, 4, 6]), ([7, 7], [1, 7]),
            ([9, 1, 10], [1, 2, 3, 5, 9, 10]),
        ]:
            self.assertEqual(common_hops(hops), common)


class Quotient(unittest.TestCase):
    def test_told_by_hand(self):
        for window, hop, factor in [
            ([1, 2, 2, 1], 1, [1, 2, 2, 1]), ([1, 2, 2, 1], 2, [1, 1, 1]), ([1, 2, 2, 1], 3, [1, 1]), ([5], 1, [5]),
            ([3] * 200, 200, [3]), ([1, -1, -1, 1], 2, [1, -2, 1]), ([0, 1, 1, 0], 2, [0, 1, 0]),
            ([LONG, LONG], 2, [LONG]), ([1, 0, -1], 1, [1, 0, -1]), ([1, 1, 0, -1, -1], 3, [1, 0, -1]),
        ]:
            self.assertEqual(quotient(window, hop), factor)

    def test_products_with_flat_windows(self):
        for factor in FACTORS + [list(range(-60, 60)), [1] * 50, [0] * 30 + [-LONG]]:
            for hop in (1, 2, 3, 4, 12, 64, 80, 100, 197, 199, 200):
                if len(factor) + hop <= 201:
                    self.assertEqual(quotient(product_of(factor, flat_window(hop)), hop), factor)

    def test_windows_of_200_entries(self):
        draw = random.Random(9)
        for hop in (1, 2, 7, 50, 100, 150, 199, 200):
            for total in (0, 1, LONG):
                factor = [draw.choice((-LONG, -2, 0, 1, 5)) for _ in range(201 - hop)]
                factor[-1] = 1
                factor[0] += total - sum(factor)
                if any(factor):
                    window = product_of(factor, flat_window(hop))
                    self.assertEqual((len(window), sum(window)), (200, total * hop))
                    self.assertEqual(quotient(window, hop), factor)

    def test_not_even(self):
        for window in ([1], [1, 2], [1, 2, 2, 1], [1, 1, 1], [0, 0, 5], [LONG, LONG + 1], [1] * 200, [1, -1]):
            for hop in (2, 3, 4, 5, 199, 200, 201, 1000):
                pair = least_uneven(window, hop)
                if pair is not None:
                    with self.assertRaises(NotEven) as held:
                        quotient(window, hop)
                    self.assertEqual((held.exception.rest, held.exception.other), pair)
                    self.assertIs(type(held.exception), NotEven)

    def test_small_windows_all(self):
        for entries in itertools.product((-1, 0, 1, 2), repeat=5):
            for hop in (1, 2, 3, 5):
                if any(entries) and least_uneven(entries, hop) is None:
                    factor = quotient([*entries], hop)
                    self.assertEqual(len(factor), 6 - hop)
                    self.assertEqual(plain_product(factor, [1] * hop), [*entries])


class QuotientBy(unittest.TestCase):
    def test_told_by_hand(self):
        for window, hops, factor in [
            ([1, 2, 2, 1], [1], [1, 2, 2, 1]), ([1, 2, 2, 1], [2, 3], [1]), ([1, 2, 2, 1], [3, 2], [1]),
            ([1, 2, 2, 1], [2], [1, 1, 1]), ([2, 2, 4, 4, 4, 4, 2, 2], [6, 4], [2]), ([5], [1, 1], [5]),
            ([1, 3, 4, 3, 1], [2, 3], [1, 1]), ([3] * 200, [200, 100], [3]), ([-1, -1, 0, 1, 1], [2], [-1, 0, 0, 1]),
        ]:
            self.assertEqual(quotient_by(window, hops), factor)

    def test_products_with_the_least_window(self):
        for hops in HOPS:
            for factor in FACTORS:
                if len(factor) + plain_sight(hops) <= 201:
                    window = product_of(least_window(hops), factor)
                    self.assertEqual(quotient_by(window, hops), factor, hops)

    def test_windows_of_200_entries(self):
        draw = random.Random(10)
        for hops in HOPS:
            factor = [draw.choice((-LONG, -2, 0, 1, 5)) for _ in range(201 - plain_sight(hops))]
            factor[-1] = 3
            window = plain_product(least_window(hops), factor)
            self.assertEqual(len(window), 200)
            self.assertEqual(quotient_by(window, hops), factor, hops)

    def test_a_total_of_0(self):
        for hops in ([4, 6], [2, 3, 5], [1], [30, 42, 70, 105]):
            window = unseen(hops)
            self.assertEqual(sum(window), 0)
            self.assertEqual(quotient_by(window, hops), [-1, 1])

    def test_the_least_hop_of_the_list_decides(self):
        windows = [
            [1, 1, 1, 1], [1, 2, 2, 1], [1] * 12, [1], [2, 1], [0, 0, 1, 0, 1, 1], [1, 1, 1, 1, 1], [LONG, 0, 0, LONG],
            product_of([1] * 6, [1, 2, 3]), [1] * 5 + [2] * 5, [1] * 200,
        ]
        lists = [[2, 3, 4], [4, 3, 2], [3, 4, 2], [6, 12, 9], [12, 6, 9], [5, 5, 1], [10, 5], [200], [7, 1, 2]]
        for window, hops in itertools.product(windows, lists):
            uneven = [hop for hop in sorted(hops) if least_uneven(window, hop) is not None]
            if not uneven:
                self.assertEqual(plain_product(quotient_by(window, hops), least_window(hops)), window)
                continue
            with self.assertRaises(NotEven) as held:
                quotient_by(window, hops)
            pair = (held.exception.rest, held.exception.other)
            self.assertEqual(pair, least_uneven(window, uneven[0]), (window, hops))

    def test_not_even_told_by_hand(self):
        for window, hops, pair in [
            ([1, 1, 1, 1], [4, 3, 2], (0, 1)), ([1, 1, 1], [2, 3], (0, 1)), ([1, 1, 1, 1], [5, 8], (0, 4)),
            ([1, 1, 1, 1], [8, 5, 4], (0, 4)), ([1, 1, 0, 0], [4, 2, 6], (0, 2)), ([2], [9, 2], (0, 1)),
        ]:
            with self.assertRaises(NotEven) as held:
                quotient_by(window, hops)
            self.assertEqual((held.exception.rest, held.exception.other), pair)


class Unseen(unittest.TestCase):
    def test_told_by_hand(self):
        for hops, entries in [
            ([1], [-1, 1]), ([2], [-1, 0, 1]), ([3], [-1, 0, 0, 1]), ([2, 3], [-1, -1, 0, 1, 1]),
            ([200], [-1] + [0] * 199 + [1]),
        ]:
            self.assertEqual(unseen(hops), entries)

    def test_rest_sums_are_0(self):
        for hops in HOPS:
            entries = unseen(hops)
            self.assertEqual(entries, plain_product(least_window(hops), [-1, 1]))
            self.assertEqual(len(entries), plain_sight(hops) + 1)
            for hop in plain_divisors(hops):
                self.assertEqual(plain_sums(entries, hop), [0] * hop)

    def test_as_a_window_it_is_even_at_the_hops(self):
        for hops in HOPS:
            if plain_sight(hops) < 200:
                self.assertTrue(all(is_even(unseen(hops), hop) for hop in hops))


class Limits(unittest.TestCase):
    CALLS = [least_window, sight, common_hops, unseen]

    def test_lists_that_are_no_hops(self):
        # No subTest: the first failure ends the test, ahead of the long hops that would take long if they passed.
        for hops in wrong_lists_of_hops():
            for call in self.CALLS:
                self.assertEqual(outcome(call, hops), ("error", InvalidHops), (call, hops))
            for window in ([1], [1, 2], [1] * 12):
                self.assertEqual(outcome(quotient_by, window, hops), ("error", InvalidHops), hops)

    def test_how_many_hops(self):
        for many in range(1, 7):
            for call in self.CALLS:
                self.assertEqual(outcome(call, [2] * many), outcome(call, [2]))
            self.assertEqual(quotient_by([3, 3], [2] * many), [3])
        for many in (0, 7, 8, 60):
            for call in self.CALLS:
                self.assertEqual(outcome(call, [1] * many), ("error", InvalidHops))

    def test_both_sides_of_the_greatest_sum(self):
        # The sums of phi over the divisors above 1 of these are 199 and 199, then 200 and more.
        for hops in ([200], [199, 2], [199, 2, 2, 1, 199, 1]):
            for call in self.CALLS:
                self.assertEqual(outcome(call, hops)[0], "value")
            self.assertEqual(sight(hops), 200)
        for hops in ([201], [199, 3], [197, 3, 3, 4], [101, 102], [101, 103], [200, 3], [398], [210], [840], [1000]):
            self.assertGreater(plain_sight(hops), 200)
            for call in self.CALLS:
                self.assertEqual(outcome(call, hops), ("error", InvalidHops))

    def test_lists_of_two_hops_all(self):
        for first in range(80, 130, 3):
            for second in range(60, 140, 7):
                expected = ("value", plain_sight([first, second]))
                if expected[1] > 200:
                    expected = ("error", InvalidHops)
                self.assertEqual(outcome(sight, [first, second]), expected)

    def test_wrong_windows(self):
        for thing in wrong_windows():
            self.assertEqual(outcome(quotient, thing, 1), ("error", InvalidWindow))
            self.assertEqual(outcome(quotient_by, thing, [1]), ("error", InvalidWindow))

    def test_wrong_hops(self):
        for hop in (0, -1, 1001, 1002, LONG, -LONG, True, False):
            for window in ([1], [1, 2], [1] * 200):
                self.assertEqual(outcome(quotient, window, hop), ("error", InvalidHop), hop)
        self.assertEqual(outcome(quotient, [1], 1), ("value", [1]))
        self.assertEqual(outcome(quotient, [1], 1000), ("error", NotEven))

    def test_the_first_wrong_one_decides(self):
        for thing in some_wrong_windows():
            self.assertEqual(outcome(quotient, thing, 0), ("error", InvalidWindow))
            self.assertEqual(outcome(quotient_by, thing, []), ("error", InvalidWindow))
        self.assertEqual(outcome(quotient_by, [1, 2], [2, 1001]), ("error", InvalidHops))


if __name__ == "__main__":
    unittest.main()
