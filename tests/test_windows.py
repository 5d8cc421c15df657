"""[6]: windows and what is made of them."""

import itertools
import unittest

from frameseams.errors import InvalidHop, InvalidNumber, InvalidWindow
from frameseams.windows import (
    flat_window, is_window, laid_in_turn, laid_over, phases_of, product_of, stretched, total_of, turned_round,
)
from helpers import ENDS_AT_200, LONG, outcome, plain_product, some_wrong_windows, wrong_windows

WINDOWS = [
    [1], [-1], [7], [LONG], [-LONG], [1, 2, 2, 1], [0, 1], [1, 0], [0, 0, 5, 0, 0], [3, -3], [0, 1, -1, 0],
    [LONG, -LONG, 1], [1] * 199, [2] * 200, list(range(-100, 100)), ENDS_AT_200, [0] * 199 + [1], [1] + [0] * 199,
]


class IsWindow(unittest.TestCase):
    def test_windows(self):
        for window in WINDOWS:
            self.assertIs(is_window(window), True, window)

    def test_anything_else(self):
        for thing in wrong_windows():
            self.assertIs(is_window(thing), False, thing)

    def test_both_sides_of_the_length(self):
        self.assertIs(is_window([]), False)
        self.assertIs(is_window([1]), True)
        self.assertIs(is_window([1] * 200), True)
        self.assertIs(is_window([1] * 201), False)


class TotalOf(unittest.TestCase):
    def test_totals(self):
        for window, total in [
            ([1], 1), ([-4], -4), ([1, 2, 2, 1], 6), ([0, 0, 5, 0], 5), ([3, -3], 0), ([LONG, LONG], 2 * LONG),
            ([-LONG, 1], 1 - LONG), ([2] * 200, 400), (list(range(-100, 100)), -100), (ENDS_AT_200, -2),
        ]:
            self.assertEqual(total_of(window), total)

    def test_longer_numbers_of_its_own(self):
        longer = product_of([LONG, 1], [LONG, LONG])
        self.assertEqual(total_of(longer), (LONG + 1) * 2 * LONG)


class ProductOf(unittest.TestCase):
    def test_products_told_by_hand(self):
        for window, other, product in [
            ([1, 1], [1, 2, 1], [1, 3, 3, 1]), ([2], [-3], [-6]), ([1, -1], [1, 1], [1, 0, -1]),
            ([0, 1], [1, 0], [0, 1, 0]), ([0, 0, 2, 0], [0, 3, 0], [0, 0, 0, 6, 0, 0]),
            ([5], [1, 0, -2], [5, 0, -10]), ([1, 2, 3], [4, 5], [4, 13, 22, 15]),
            ([LONG], [-LONG, 0], [-LONG * LONG, 0]),
        ]:
            self.assertEqual(product_of(window, other), product)

    def test_against_plain_products(self):
        for window, other in itertools.product(WINDOWS, WINDOWS):
            if len(window) + len(other) <= 201:
                self.assertEqual(product_of(window, other), plain_product(window, other))

    def test_small_ones_all(self):
        small = [[*few] for many in (1, 2, 3) for few in itertools.product((-1, 0, 2), repeat=many) if any(few)]
        for window, other in itertools.product(small, small):
            self.assertEqual(product_of(window, other), plain_product(window, other))

    def test_both_sides_of_the_limit(self):
        self.assertEqual(product_of([1] * 200, [2]), [2] * 200)
        self.assertEqual(product_of([2], [1] * 200), [2] * 200)
        self.assertEqual(len(product_of([1] * 100, [1] * 101)), 200)
        self.assertEqual(len(product_of([1] + [0] * 198, [1, 0])), 200)
        for many, others in [(200, 2), (2, 200), (101, 101), (100, 102), (200, 200)]:
            self.assertEqual(outcome(product_of, [1] * many, [1] * others), ("error", InvalidWindow))
        # Zeros at the ends count as entries, too.
        self.assertEqual(outcome(product_of, [1] + [0] * 100, [1] + [0] * 100), ("error", InvalidWindow))


class Stretched(unittest.TestCase):
    def test_ordinary(self):
        for window, by, longer in [
            ([1, 2, 3], 1, [1, 2, 3]), ([1, 2, 3], 2, [1, 0, 2, 0, 3]), ([1, -2], 3, [1, 0, 0, -2]),
            ([0, 1, 0], 2, [0, 0, 1, 0, 0]), ([LONG, 0, -LONG], 2, [LONG, 0, 0, 0, -LONG]),
            ([1, 1], 199, [1] + [0] * 198 + [1]), ([1] * 200, 1, [1] * 200),
        ]:
            self.assertEqual(stretched(window, by), longer)

    def test_one_entry_by_any_number(self):
        for by in (1, 2, 199, 200, 201, 1001, LONG):
            self.assertEqual(stretched([-4], by), [-4])

    def test_both_sides_of_the_limit(self):
        # From 2 entries on the number of entries is (n - 1) * by + 1.
        for many, by, entries in [(2, 199, 200), (2, 198, 199), (200, 1, 200), (100, 2, 199), (8, 28, 197)]:
            self.assertEqual(len(stretched([1] * many, by)), entries)
        for many, by in [(2, 200), (2, 201), (101, 2), (200, 2), (200, 200), (3, 100), (6, 40), (2, LONG), (200, LONG)]:
            self.assertEqual(outcome(stretched, [1] * many, by), ("error", InvalidNumber))

    def test_wrong_numbers(self):
        for window in ([1], [1, 2], [1] * 200):
            for by in (0, -1, -200, -LONG, True, False):
                self.assertEqual(outcome(stretched, window, by), ("error", InvalidNumber))


class PhasesOf(unittest.TestCase):
    def test_ordinary(self):
        for window, by, phases in [
            ([1, 2, 3, 4, 5], 1, [[1, 2, 3, 4, 5]]), ([1, 2, 3, 4, 5], 2, [[1, 3, 5], [2, 4]]),
            ([1, 2, 3, 4, 5], 3, [[1, 4], [2, 5], [3]]), ([0, 1, 0, 2], 2, [[0, 0], [1, 2]]),
            ([0, 1, 0], 3, [[0], [1], [0]]), ([5], 3, [[5], [], []]), ([LONG, -LONG], 4, [[LONG], [-LONG], [], []]),
        ]:
            self.assertEqual(phases_of(window, by), phases)

    def test_against_plain_indices(self):
        for window in WINDOWS:
            for by in (1, 2, 3, 7, 64, 199, 200):
                plain = [[window[i] for i in range(len(window)) if i % by == r] for r in range(by)]
                self.assertEqual(phases_of(window, by), plain)

    def test_both_sides_of_the_limit(self):
        self.assertEqual(phases_of([1, 2], 200), [[1], [2]] + [[]] * 198)
        self.assertEqual(phases_of(list(range(200)), 200), [[entry] for entry in range(200)])
        for by in (0, 201, -1, 1000, LONG, -LONG, True, False):
            self.assertEqual(outcome(phases_of, [1, 2], by), ("error", InvalidNumber))


class TurnedRound(unittest.TestCase):
    def test_ordinary(self):
        for window, backwards in [
            ([1], [1]), ([1, 2, 3], [3, 2, 1]), ([0, 0, -1], [-1, 0, 0]), ([LONG, 0], [0, LONG]),
            (list(range(-100, 100)), list(range(99, -101, -1))), (ENDS_AT_200, [-5] + [0] * 198 + [3]),
        ]:
            self.assertEqual(turned_round(window), backwards)


class FlatWindow(unittest.TestCase):
    def test_all_hops(self):
        for hop in range(1, 201):
            self.assertEqual(flat_window(hop), [1] * hop)

    def test_wrong_hops(self):
        for hop in (0, -1, 201, 1000, 1001, LONG, -LONG, True, False):
            self.assertEqual(outcome(flat_window, hop), ("error", InvalidHop))


class LaidOver(unittest.TestCase):
    def test_ordinary(self):
        for window, other, offset, laid in [
            ([1, 2, 3], [10, 20], 0, [11, 22, 3]), ([1, 2, 3], [10, 20], 1, [1, 12, 23]),
            ([1, 2, 3], [10, 20], 2, [1, 2, 13, 20]), ([1, 2, 3], [10, 20], 3, [1, 2, 3, 10, 20]),
            ([1], [2], 3, [1, 0, 0, 2]), ([1], [2, 3, 4], 0, [3, 3, 4]), ([0, 1, 0], [0, 5], 1, [0, 1, 5]),
            ([1, 1], [-1, -1, 2], 0, [0, 0, 2]), ([1, 1], [-1], 1, [1, 0]), ([0, 1], [1, 0, 0], 2, [0, 1, 1, 0, 0]),
            ([LONG], [-LONG], 1, [LONG, -LONG]), ([LONG], [LONG], 0, [2 * LONG]),
            ([1, 2, 3, 4, 5], [10], 1, [1, 12, 3, 4, 5]),
        ]:
            self.assertEqual(laid_over(window, other, offset), laid)

    def test_against_plain_sums(self):
        for window, other in itertools.product(WINDOWS[:12], WINDOWS[:12]):
            for offset in range(7):
                plain = [0] * max(len(window), offset + len(other))
                for at, entry in enumerate(window):
                    plain[at] += entry
                for at, entry in enumerate(other):
                    plain[offset + at] += entry
                expected = ("value", plain) if any(plain) else ("error", InvalidWindow)
                self.assertEqual(outcome(laid_over, window, other, offset), expected)

    def test_both_sides_of_the_limit(self):
        self.assertEqual(laid_over([1], [2], 199), [1] + [0] * 198 + [2])
        self.assertEqual(laid_over([1], [1] * 200, 0), [2] + [1] * 199)
        self.assertEqual(laid_over([1] * 200, [1], 0), [2] + [1] * 199)
        self.assertEqual(laid_over([1] * 200, [1], 199), [1] * 199 + [2])
        self.assertEqual(laid_over([1] * 200, [1] * 100, 100), [1] * 100 + [2] * 100)
        self.assertEqual(laid_over([1] * 200, [1] * 200, 0), [2] * 200)
        for window, other, offset in [
            ([1], [2], 200), ([1], [1] * 200, 1), ([1] * 200, [1], 200), ([1] * 200, [1] * 100, 101),
            ([1] * 200, [1] * 200, 1), ([1], [1, 0], 199), ([1], [1], 201), ([1], [1], 1001), ([1], [1], LONG),
        ]:
            self.assertEqual(outcome(laid_over, window, other, offset), ("error", InvalidNumber))

    def test_wrong_offsets(self):
        for offset in (-1, -2, -200, -LONG, True, False):
            self.assertEqual(outcome(laid_over, [1, 2], [3], offset), ("error", InvalidNumber))

    def test_only_zeros_left(self):
        for window, other, offset in [
            ([1], [-1], 0), ([0, 1], [-1], 1), ([0, 1, 0], [-1, 0, 0], 1), ([LONG], [-LONG], 0),
            ([1, -2, 3], [-1, 2, -3], 0), ([1] * 200, [-1] * 200, 0), ([0] * 199 + [1], [-1], 199),
        ]:
            self.assertEqual(outcome(laid_over, window, other, offset), ("error", InvalidWindow))

    def test_only_zeros_are_told_last_of_all(self):
        self.assertEqual(outcome(laid_over, [0, 1], [-1] + [0] * 198, 1), ("error", InvalidWindow))
        self.assertEqual(outcome(laid_over, [0, 1], [-1] + [0] * 199, 1), ("error", InvalidNumber))
        self.assertEqual(outcome(laid_over, [1], [-1], -1), ("error", InvalidNumber))


class LaidInTurn(unittest.TestCase):
    def test_ordinary(self):
        for windows, hop, laid in [
            ([[1, 2, 2, 1]], 2, [1, 2, 2, 1]), ([[1, 2, 2, 1]] * 2, 2, [1, 2, 3, 3, 2, 1]),
            ([[1, 2], [3, 4], [5, 6]], 1, [1, 5, 9, 6]), ([[1, 2], [3, 4], [5, 6]], 2, [1, 2, 3, 4, 5, 6]),
            ([[1], [2], [3]], 3, [1, 0, 0, 2, 0, 0, 3]), ([[1, 1, 1, 1, 1], [1], [1]], 1, [1, 2, 2, 1, 1]),
            ([[1], [1, 1, 1, 1, 1], [1]], 1, [1, 1, 2, 1, 1, 1]), ([[1, 0], [0, 1, 0]], 1, [1, 0, 1, 0]),
            ([[1, 1], [-1]], 1, [1, 0]), ([[LONG], [-LONG]], 1, [LONG, -LONG]), ([[0, 1]] * 8, 1, [0] + [1] * 8),
        ]:
            self.assertEqual(laid_in_turn(windows, hop), laid)

    def test_against_plain_sums(self):
        small = WINDOWS[:11]
        for windows in itertools.product(small, small, small):
            for hop in (1, 2, 3, 5):
                plain = [0] * max(j * hop + len(window) for j, window in enumerate(windows))
                for j, window in enumerate(windows):
                    for at, entry in enumerate(window):
                        plain[j * hop + at] += entry
                expected = ("value", plain) if any(plain) else ("error", InvalidWindow)
                self.assertEqual(outcome(laid_in_turn, [*windows], hop), expected)

    def test_how_many_windows(self):
        for many in range(1, 9):
            self.assertEqual(laid_in_turn([[many]] * many, 1), [many] * many)
        for many in (0, 9, 10, 200):
            self.assertEqual(outcome(laid_in_turn, [[1]] * many, 1), ("error", InvalidWindow))

    def test_wrong_windows(self):
        for thing in wrong_windows():
            if thing != [[1, 2]]:
                self.assertEqual(outcome(laid_in_turn, thing, 1), ("error", InvalidWindow))
            self.assertEqual(outcome(laid_in_turn, [thing], 1), ("error", InvalidWindow))
            self.assertEqual(outcome(laid_in_turn, [[1], thing, [1]], 1), ("error", InvalidWindow))
        for windows in ([1, 2, 2, 1], ([1], [1]), "1", {"a": [1]}, [[1], [0]], [[1]] * 7 + [[]]):
            self.assertEqual(outcome(laid_in_turn, windows, 1), ("error", InvalidWindow))

    def test_one_window_at_any_hop(self):
        for hop in (1, 200, 201, 1000):
            self.assertEqual(laid_in_turn([[4, 5]], hop), [4, 5])
            self.assertEqual(laid_in_turn([[2] * 200], hop), [2] * 200)

    def test_both_sides_of_the_limit(self):
        self.assertEqual(laid_in_turn([[1], [2]], 199), [1] + [0] * 198 + [2])
        self.assertEqual(len(laid_in_turn([[1, 1], [1, 1], [1, 1]], 99)), 200)
        self.assertEqual(len(laid_in_turn([[1] * 200, [1]], 199)), 200)
        self.assertEqual(len(laid_in_turn([[1] * 4] * 8, 28)), 200)
        for windows, hop in [
            ([[1], [2]], 200), ([[1], [2]], 1000), ([[1, 1], [1, 1], [1, 1]], 100), ([[1] * 200, [1]], 200),
            ([[1] * 5] * 8, 28), ([[1], [1] * 200], 1), ([[1], [1] * 200, [1]], 1), ([[1] * 200] * 8, 1),
        ]:
            self.assertEqual(outcome(laid_in_turn, windows, hop), ("error", InvalidHop))

    def test_wrong_hops(self):
        for hop in (0, -1, 1001, LONG, -LONG, True, False):
            for windows in ([[1]], [[1], [2]], [[1], [-1]]):
                self.assertEqual(outcome(laid_in_turn, windows, hop), ("error", InvalidHop))

    def test_only_zeros_left(self):
        for windows, hop in [
            ([[0, 1], [-1]], 1), ([[0, 1, 0], [-1, 0, 0]], 1), ([[0, 0, 1], [0, 1], [-2]], 1),
            ([[0, 0, LONG], [-LONG]], 2), ([[0] * 199 + [1], [-1]], 199),
        ]:
            self.assertEqual(outcome(laid_in_turn, windows, hop), ("error", InvalidWindow))

    def test_only_zeros_are_told_last_of_all(self):
        self.assertEqual(outcome(laid_in_turn, [[0, 1], [-1] + [0] * 198], 1), ("error", InvalidWindow))
        self.assertEqual(outcome(laid_in_turn, [[0, 1], [-1] + [0] * 199], 1), ("error", InvalidHop))


class WrongWindows(unittest.TestCase):
    def test_each_place_of_a_window(self):
        for thing in wrong_windows():
            for call, args in [
                (total_of, (thing,)), (product_of, (thing, [1])), (product_of, ([1], thing)), (stretched, (thing, 1)),
                (phases_of, (thing, 1)), (turned_round, (thing,)), (laid_over, (thing, [1], 0)),
                (laid_over, ([1], thing, 0)),
            ]:
                with self.subTest(call=call.__name__, thing=thing):
                    self.assertEqual(outcome(call, *args), ("error", InvalidWindow))

    def test_the_first_wrong_one_decides(self):
        for thing in some_wrong_windows():
            self.assertEqual(outcome(stretched, thing, 0), ("error", InvalidWindow))
            self.assertEqual(outcome(phases_of, thing, 201), ("error", InvalidWindow))
            self.assertEqual(outcome(laid_over, thing, [1], -1), ("error", InvalidWindow))
            self.assertEqual(outcome(laid_over, [1], thing, -1), ("error", InvalidWindow))
            self.assertEqual(outcome(laid_over, [1], thing, 200), ("error", InvalidWindow))
            self.assertEqual(outcome(laid_in_turn, thing, 0), ("error", InvalidWindow))
            self.assertEqual(outcome(laid_in_turn, [thing, [1]], 1001), ("error", InvalidWindow))


if __name__ == "__main__":
    unittest.main()
