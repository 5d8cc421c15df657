"""[8]: marks, crossings, multiplicities, orders and moments."""

import itertools
import random
import unittest

from frameseams.divisors import mark_list
from frameseams.errors import InvalidHop, InvalidNumber, InvalidWindow
from frameseams.marks import crossing, first_crossing, has_mark, marks_of, moments, multiplicity, order_at
from frameseams.windows import flat_window, product_of, stretched
from helpers import (
    LONG, outcome, plain_crossing, plain_divisors, plain_first_crossing, plain_moment, plain_phi, plain_primes,
    plain_product, plain_sums, some_wrong_windows, wrong_windows,
)

WRONG_MARKS = [1, 0, -1, -2, 1001, 1002, LONG, -LONG, True, False]


def product_of_flat(hops, last=(1,)):
    window = [*last]
    for hop in hops:
        window = product_of(window, flat_window(hop))
    return window


def drawn_window(many):
    draw = random.Random(many)
    return [draw.choice((-LONG, -3, -1, 0, 0, 1, 2, 7, LONG)) for _ in range(many - 1)] + [5]


FLAT_PRODUCTS = [
    [2], [3], [2, 3], [6], [2, 2], [2, 2, 2, 3], [4, 6], [6, 10, 15], [30], [12, 12, 12], [30, 42], [64], [105],
    [16, 9, 25], [120], [60, 60], [11, 11, 22, 33],
]
OTHERS = [
    [1], [-4], [LONG], [1, -1], [1, 0, -1], [1, 2], [0, 0, 3], [3, 0, 0], [1, -1, 1], [1, -2, 1], [1, 1, -1, -1],
    [LONG, LONG], [LONG, -LONG], [LONG, LONG, LONG + 1], [0] * 119 + [1], [1] + [0] * 118 + [1], [1, -1] * 60,
    list(range(-60, 60)), [0, 0, 1, 1, 1, 1, 0], [0] * 30 + [2] * 60 + [0] * 30, drawn_window(7), drawn_window(120),
]
WINDOWS = [product_of_flat(hops) for hops in FLAT_PRODUCTS] + OTHERS + [
    product_of_flat([6, 10], [1, -1]), product_of_flat([30], [LONG, 0, -3]), product_of_flat([2, 2], [0, 1, 0]),
    stretched(flat_window(2), 3), stretched(flat_window(4), 30), stretched(product_of_flat([2, 3]), 35),
    stretched([1, -1], 7), plain_product(flat_window(4), mark_list(105)), plain_product(mark_list(97), [1, -3]),
]
MARKS = [2, 3, 4, 5, 6, 8, 9, 10, 12, 16, 25, 27, 30, 42, 49, 60, 64, 97, 105, 121, 128, 210]
FAR_MARKS = [243, 256, 343, 420, 512, 625, 729, 840, 961, 990, 997, 998, 1000]


class Crossings(unittest.TestCase):
    def test_told_by_hand(self):
        for window, mark, rest, number in [
            ([1, 2, 2, 1], 2, 0, 0), ([1, 2, 2, 1], 2, 1, 0), ([5], 2, 0, 5), ([5], 2, 1, -5), ([1, 4], 2, 0, -3),
            ([1, 2, 4], 3, 0, -1), ([1, 2, 4], 3, 1, -2), ([1, 2, 4], 3, 2, 3), ([1, 2, 4, 8], 4, 0, -3),
            ([1, 2, 4, 8], 4, 1, -6), ([1, 2, 4, 8], 4, 2, 3), ([1, 2, 4, 8], 4, 3, 6),
            # At 6 and the rest 0: s_0 - s_3 - s_2 + s_5.
            ([1, 2, 4, 8, 16, 32], 6, 0, 21), ([1, 2, 4, 8, 16, 32], 6, 5, 32 - 4 - 2 + 16),
            ([7], 997, 0, 7), ([7], 997, 996, -7), ([7], 1000, 0, 7), ([7], 1000, 500, -7), ([7], 1000, 300, 7),
            ([0, 7], 1000, 999, 0), ([0, LONG], 997, 0, -LONG), ([LONG], 30, 29, -LONG), ([LONG], 30, 1, 0),
        ]:
            with self.subTest(window=window, mark=mark, rest=rest):
                self.assertEqual(crossing(window, mark, rest), number)

    def test_against_plain_sums_at_all_rests(self):
        for window, mark in itertools.product(WINDOWS, MARKS[:-6]):
            self.check_crossings(window, mark, range(mark))

    def test_against_plain_sums_at_some_rests(self):
        for window, mark in itertools.product(WINDOWS, MARKS[-6:] + FAR_MARKS):
            self.check_crossings(window, mark, [0, 1, 2, mark // 3, mark // 2, mark - 2, mark - 1])

    def check_crossings(self, window, mark, rests):
        sums, primes = plain_sums(window, mark), plain_primes(mark)
        for rest in rests:
            self.assertEqual(crossing(window, mark, rest), plain_crossing(sums, primes, rest), (window, mark, rest))

    def test_first_crossings(self):
        for window, mark in itertools.product(WINDOWS, MARKS + FAR_MARKS):
            first = plain_first_crossing(window, mark)
            self.assertEqual(first_crossing(window, mark), first, (window, mark))
            self.assertIs(has_mark(window, mark), first is None)

    def test_first_crossings_told_by_hand(self):
        for window, mark, first in [
            ([1, 2, 2, 1], 2, None), ([1, 2, 2, 1], 3, None), ([1, 2, 2, 1], 6, 0), ([1, 1], 2, None),
            ([1, 1], 997, 1), ([0, 0, 0, 5], 997, 2), ([0, 0, 0, 5], 1000, 3), ([1, 0, 1], 4, None),
            ([0, 1], 3, 0), ([0, 0, 1], 3, 1), ([1, 1, 2, 2], 4, 0), ([1, 2, 1, 3], 4, 1),
        ]:
            self.assertEqual(first_crossing(window, mark), first, (window, mark))

    def test_crossings_of_all_small_windows(self):
        for entries in itertools.product((-1, 0, 1, 2), repeat=4):
            if any(entries):
                for mark in (2, 3, 4, 6):
                    self.assertEqual(first_crossing([*entries], mark), plain_first_crossing(entries, mark))


class Marks(unittest.TestCase):
    def test_told_by_hand(self):
        for window, marks in [
            ([1], []), ([-3], []), ([LONG], []), ([1, 1], [2]), ([LONG, LONG], [2]), ([1, -1], []), ([1, -1, 1], [6]),
            ([1, 2, 2, 1], [2, 3]), ([0, 1, 1, 0], [2]), ([1, 0, 1], [4]), ([1, 0, 0, 1], [2, 6]),
            ([1] * 12, [2, 3, 4, 6, 12]), ([1, 2], []), ([1, 1, 2, 2, 2, 2, 1, 1], [2, 3, 4, 6]),
            ([1] + [0] * 59 + [1], [8, 24, 40, 120]), ([1] * 120, plain_divisors([120])[1:]), ([1] * 97, [97]),
            (mark_list(210), [210]), (mark_list(420), [420]), ([1, 0, 0, 0, -1], [2, 4]),
        ]:
            with self.subTest(window=window):
                self.assertEqual(marks_of(window), marks)

    def test_against_plain_crossings_at_all_marks(self):
        for window in WINDOWS:
            plain = [mark for mark in range(2, 1001) if plain_first_crossing(window, mark) is None]
            self.assertEqual(marks_of(window), plain, window)

    def test_products_of_flat_windows(self):
        # With no other factor the marks are the divisors of the hops.
        for hops in FLAT_PRODUCTS:
            marks = plain_divisors(hops)[1:]
            for last in ([1], [-5], [0, 0, 1], [1, 0][::-1], [2, 1], [1, -1]):
                if sum(hops) - len(hops) + len(last) <= 120:
                    self.assertEqual(marks_of(product_of_flat(hops, last)), marks, (hops, last))

    def test_each_mark_of_few_enough_entries(self):
        # phi of a mark is at most 119 for 120 entries; the greatest such mark is 462 less one more prime.
        for mark in range(2, 1001):
            if plain_phi(mark) < 120:
                window = mark_list(mark)
                self.assertIs(has_mark(window, mark), True)
                self.assertIs(has_mark(window[:-1] + [window[-1] + 1], mark), False)
        for mark in (2, 30, 97, 120, 210, 330, 390, 420):
            self.assertEqual(marks_of(mark_list(mark)), [mark])

    def test_windows_beyond_the_limit_of_use(self):
        self.assertEqual(marks_of([1] * 200), plain_divisors([200])[1:])
        self.assertEqual(marks_of(mark_list(840)), [840])
        self.assertEqual(marks_of([1] * 199), [199])


class Multiplicities(unittest.TestCase):
    def test_told_by_hand(self):
        for window, mark, times in [
            ([1], 2, 0), ([1, 1], 2, 1), ([1, 2, 1], 2, 2), ([1, 3, 3, 1], 2, 3), ([1, 3, 3, 1], 3, 0),
            ([1, 0, -1], 2, 1), ([1, 2, 3, 2, 1], 3, 2), ([1, 0, 2, 0, 1], 4, 2), ([1, 0, 2, 0, 1], 2, 0),
            ([0, 0, 1, 2, 1, 0], 2, 2), ([LONG, 2 * LONG, LONG], 2, 2), ([1], 1000, 0), ([1] * 120, 997, 0),
            ([1] * 120, 120, 1), ([-1, -1], 2, 1), ([1, 1, 0, -1, -1], 2, 1), ([1, 1, 0, -1, -1], 3, 1),
        ]:
            with self.subTest(window=window, mark=mark):
                self.assertEqual(multiplicity(window, mark), times)

    def test_products_of_flat_windows(self):
        many = [[2] * 119, [3] * 59, [2] * 50 + [4] * 10, [6] * 20, [2, 3, 4, 6, 12] * 2, [30, 15, 10, 6, 5, 3, 2]]
        for hops in FLAT_PRODUCTS + many:
            for last in ([1], [-7], [1, -1], [0, 1], [2, 0, LONG]):
                if sum(hops) - len(hops) + len(last) > 120:
                    continue
                window = product_of_flat(hops, last)
                for mark in list(range(2, 36)) + [60, 64, 105, 120, 997, 1000]:
                    times = sum(1 for hop in hops if hop % mark == 0)
                    self.assertEqual(multiplicity(window, mark), times, (hops, last, mark))

    def test_one_factor_many_times(self):
        for mark in (2, 3, 4, 5, 6, 7, 12, 15, 30, 105, 210):
            window = [3, 0, -1]
            times = 0
            while len(window) + plain_phi(mark) <= 120:
                window = product_of(window, mark_list(mark))
                times += 1
                self.assertEqual(multiplicity(window, mark), times, mark)
                self.assertEqual(multiplicity(window, 11), 0)

    def test_marks_are_those_with_a_multiplicity(self):
        for window in WINDOWS:
            marks = [mark for mark in range(2, 430) if multiplicity(window, mark) > 0]
            self.assertEqual(marks_of(window), marks)


def plain_order(window, hop):
    order = 0
    while len(set(plain_sums(plain_moment(window, order), hop))) == 1:
        order += 1
    return order


class Orders(unittest.TestCase):
    def test_told_by_hand(self):
        for window, hop, order in [
            ([1], 2, 0), ([1, 1], 2, 1), ([1, 1], 3, 0), ([1, 2, 1], 2, 2), ([1, 3, 3, 1], 2, 3), ([1, 2, 2, 1], 2, 1),
            ([1, 2, 2, 1], 3, 1), ([1, 2, 3, 2, 1], 3, 2), ([1] * 120, 120, 1), ([1] * 120, 60, 1), ([1], 1000, 0),
            ([0, 1, 2, 1, 0], 2, 2), ([1, 2, 3, 4, 3, 2, 1], 4, 2), ([1, 2, 3, 4, 3, 2, 1], 2, 2), ([1, -1], 2, 0),
            ([LONG, 2 * LONG, LONG], 2, 2), ([1, 2, 2, 2, 1], 4, 1), ([1, 2, 2, 2, 1], 2, 2),
        ]:
            with self.subTest(window=window, hop=hop):
                self.assertEqual(order_at(window, hop), order)

    def test_against_plain_moments(self):
        for window in WINDOWS:
            for hop in list(range(2, 36)) + [60, 64, 97, 120, 121, 997, 1000]:
                self.assertEqual(order_at(window, hop), plain_order(window, hop), (window, hop))

    def test_against_moments(self):
        for hops in FLAT_PRODUCTS:
            window = product_of_flat(hops)
            for hop in (2, 3, 4, 5, 6, 12, 30):
                order = order_at(window, hop)
                for power in range(order):
                    self.assertEqual(len(set(moments(window, hop, power))), 1)
                self.assertNotEqual(len(set(moments(window, hop, order))), 1)

    def test_least_multiplicity_of_the_divisors(self):
        for hops in FLAT_PRODUCTS + [[2] * 100, [12] * 8 + [4, 3], [6, 6, 4, 10], [2] * 60 + [6] * 10]:
            window = product_of_flat(hops, [1, 5])
            for hop in (2, 3, 4, 6, 10, 12, 30):
                least = min(multiplicity(window, divisor) for divisor in plain_divisors([hop])[1:])
                self.assertEqual(order_at(window, hop), least, (hops, hop))

    def test_order_of_a_long_power(self):
        self.assertEqual(order_at(product_of_flat([2] * 119), 2), 119)
        self.assertEqual(order_at(product_of_flat([2] * 199), 2), 199)


class Moments(unittest.TestCase):
    def test_told_by_hand(self):
        for window, hop, power, sums in [
            ([5], 1, 0, [5]), ([5], 1, 1, [0]), ([5], 3, 0, [5, 0, 0]), ([5], 3, 20, [0, 0, 0]),
            ([1, 2, 2, 1], 2, 0, [3, 3]), ([1, 2, 2, 1], 2, 1, [4, 5]), ([1, 2, 2, 1], 2, 2, [8, 11]),
            ([1, 2, 2, 1], 1, 3, [2 + 16 + 27]), ([1, 2, 2, 1], 6, 1, [0, 2, 4, 3, 0, 0]),
            ([0, 1, 1], 2, 20, [2 ** 20, 1]), ([0, 0, -LONG], 1, 2, [-4 * LONG]), ([7, -7], 1, 0, [0]),
            ([0] * 119 + [1], 1, 20, [119 ** 20]), ([0] * 119 + [LONG], 2, 19, [0, 119 ** 19 * LONG]),
        ]:
            with self.subTest(window=window, hop=hop, power=power):
                self.assertEqual(moments(window, hop, power), sums)

    def test_against_plain_sums(self):
        for window in WINDOWS:
            for hop, power in itertools.product((1, 2, 3, 7, 119, 120, 121, 1000), (0, 1, 2, 3, 19, 20)):
                self.assertEqual(moments(window, hop, power), plain_sums(plain_moment(window, power), hop))


class Limits(unittest.TestCase):
    def test_greatest_and_least_marks(self):
        for call in (has_mark, first_crossing, multiplicity):
            for mark in (2, 3, 999, 1000):
                self.assertEqual(outcome(call, [1, 2], mark)[0], "value", (call, mark))
                self.assertEqual(outcome(crossing, [1, 2], mark, 0)[0], "value")

    def test_wrong_marks(self):
        # No subTest: the first failure ends the test, ahead of the long marks that would take long if they passed.
        for call, mark in itertools.product((has_mark, first_crossing, multiplicity), WRONG_MARKS):
            for window in ([1], [1, 1], [1] * 120):
                self.assertEqual(outcome(call, window, mark), ("error", InvalidNumber), (call, mark))
        for mark, rest in itertools.product(WRONG_MARKS, (0, 1, -1, 1000)):
            self.assertEqual(outcome(crossing, [1, 2], mark, rest), ("error", InvalidNumber), mark)

    def test_rests(self):
        for mark in (2, 3, 30, 997, 1000):
            for rest in (0, 1, mark - 1):
                self.assertEqual(outcome(crossing, [1, 2], mark, rest)[0], "value", (mark, rest))
            for rest in (-1, -2, -mark, mark, mark + 1, 1001, LONG, -LONG, True, False):
                self.assertEqual(outcome(crossing, [1, 2], mark, rest), ("error", InvalidNumber), (mark, rest))

    def test_powers(self):
        for power in (0, 1, 20):
            self.assertEqual(outcome(moments, [1, 2], 2, power)[0], "value")
        for power in (-1, -20, 21, 22, LONG, -LONG, True, False):
            for window in ([1], [1, 2]):
                self.assertEqual(outcome(moments, window, 2, power), ("error", InvalidNumber), power)

    def test_hops(self):
        for hop in (2, 3, 999, 1000):
            self.assertEqual(outcome(order_at, [1, 2], hop), ("value", 0))
        for hop in (1, 0, -1, 1001, 1002, LONG, -LONG, True, False):
            for window in ([1], [1, 1], [1, -1]):
                self.assertEqual(outcome(order_at, window, hop), ("error", InvalidHop), hop)
        for hop in (1, 2, 999, 1000):
            self.assertEqual(outcome(moments, [1, 2], hop, 1)[0], "value")
        for hop in (0, -1, 1001, 1002, LONG, -LONG, True, False):
            for power in (0, 1, 21):
                self.assertEqual(outcome(moments, [1, 2], hop, power), ("error", InvalidHop), hop)

    def test_wrong_windows(self):
        for thing in wrong_windows():
            for call, args in [
                (marks_of, ()), (has_mark, (2,)), (crossing, (2, 0)), (first_crossing, (2,)), (multiplicity, (2,)),
                (order_at, (2,)), (moments, (2, 1)),
            ]:
                with self.subTest(call=call.__name__, thing=thing):
                    self.assertEqual(outcome(call, thing, *args), ("error", InvalidWindow))

    def test_the_first_wrong_one_decides(self):
        for thing in some_wrong_windows():
            self.assertEqual(outcome(crossing, thing, 1, -1), ("error", InvalidWindow))
            self.assertEqual(outcome(order_at, thing, 1), ("error", InvalidWindow))
            self.assertEqual(outcome(moments, thing, 0, 21), ("error", InvalidWindow))
            self.assertEqual(outcome(multiplicity, thing, 1001), ("error", InvalidWindow))


if __name__ == "__main__":
    unittest.main()
