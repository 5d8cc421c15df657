"""[11]: partners of windows, what blocks them, and how they may be changed."""

import functools
import itertools
import math
import random
import unittest

from frameseams.errors import InvalidHop, InvalidNumber, InvalidWindow, NoPartner
from frameseams.partners import (
    blocking_rest, free_numbers, has_partner, least_level, least_partner, pair_level, pair_moves, partner_of,
    rest_divisors,
)
from helpers import LONG, outcome, plain_sums, some_wrong_windows, wrong_windows

WRONG_HOPS = [0, -1, 1001, 1002, LONG, -LONG, True, False]
AT_A_LEVEL = [blocking_rest, has_partner, partner_of, least_partner]


def drawn_window(many, entries):
    draw = random.Random(many)
    return [draw.choice(entries) for _ in range(many - 1)] + [entries[0]]


WINDOWS = [
    [1], [-3], [LONG], [1, 2, 2, 1], [6, 4, 10, 15], [2, -4, 6], [0, 5], [5, 0], [0, 0, 7, 0], [0, 3, 0, 0, -9, 0],
    [4, 0, 6, 0, 9, 0], [LONG, -LONG, LONG + 1, 2], [-6, -10, -15], [12, 18, 8, 27], [0, 0, 0, 0, 0, 1],
    [6, 0, 0, 10, 0, 0, 15], [30, 42, 70, 105], [10 ** 29, 6 * 10 ** 28 + 4, 15, -7], drawn_window(40, [6, -10, 15, 0]),
    drawn_window(199, [30, 42, -70, 105, 0]), drawn_window(200, [LONG, 2 * LONG + 1, -6, 0]), [2] * 200,
]
HOPS = [1, 2, 3, 4, 5, 100, 199, 200, 201, 1000]


def plain_divisors_at(window, hop):
    return [functools.reduce(math.gcd, [window[i] for i in range(r, len(window), hop)], 0) for r in range(hop)]


def plain_least_level(window, hop):
    divisors = plain_divisors_at(window, hop)
    return 0 if 0 in divisors else functools.reduce(math.lcm, divisors, 1)


def plain_blocking(window, hop, level):
    for rest, divisor in enumerate(plain_divisors_at(window, hop)):
        if (level != 0 if divisor == 0 else level % divisor != 0):
            return rest
    return None


def is_partner(window, numbers, hop, level):
    if not isinstance(numbers, list) or len(numbers) != len(window) or any(type(one) is not int for one in numbers):
        return False
    return plain_sums([w * s for w, s in zip(window, numbers)], hop) == [level] * hop


def levels_of(window, hop):
    least = plain_least_level(window, hop)
    divisors = plain_divisors_at(window, hop)
    return [0, 1, -1, 2, 6, -6, 30, 210, least, -least, 2 * least, least + 1, divisors[0], divisors[-1], LONG]


class Divisors(unittest.TestCase):
    def test_rest_divisors_told_by_hand(self):
        for window, hop, divisors in [
            ([6, 4, 10, 15], 1, [1]), ([6, 4, 10, 15], 2, [2, 1]), ([6, 4, 10, 15], 4, [6, 4, 10, 15]),
            ([-6, 4, 9], 2, [3, 4]), ([5], 3, [5, 0, 0]), ([0, -5], 2, [0, 5]), ([0, 5, 0, 10], 2, [0, 5]),
            ([-3], 1, [3]), ([LONG, -LONG], 1, [LONG]), ([0, 0, 4], 1, [4]), ([4, 0, 0], 1, [4]),
        ]:
            self.assertEqual(rest_divisors(window, hop), divisors)

    def test_least_levels_told_by_hand(self):
        for window, hop, level in [
            ([6, 4, 10, 15], 1, 1), ([6, 4, 10, 15], 2, 2), ([6, 4, 10, 15], 4, 60), ([-6, 4, 9], 2, 12),
            ([5], 3, 0), ([5], 1, 5), ([-5], 1, 5), ([0, 5], 2, 0), ([LONG, 2], 2, 2 * LONG), ([4, 6], 2, 12),
            ([4, 0, 6], 3, 0), ([4, 4, 0, 6], 2, 4), ([1] * 200, 200, 1), ([1] * 200, 201, 0),
        ]:
            self.assertEqual(least_level(window, hop), level, (window, hop))

    def test_against_plain_divisors(self):
        for window, hop in itertools.product(WINDOWS, HOPS):
            divisors = rest_divisors(window, hop)
            self.assertEqual(divisors, plain_divisors_at(window, hop))
            self.assertTrue(all(divisor >= 0 for divisor in divisors))
            self.assertEqual(least_level(window, hop), plain_least_level(window, hop))

    def test_free_numbers(self):
        for window, hop, numbers in [
            ([0, 5], 2, [0]), ([0, 5, 0], 2, [0, 2]), ([0, 5, 0], 3, [0, 2]), ([0, 5, 0], 1, []), ([5], 4, []),
            ([0, 0, 7, 0], 4, [0, 1, 3]), ([0, 0, 7, 0], 2, [1, 3]), ([0, 0, 7, 0], 1000, [0, 1, 3]),
            ([0] * 199 + [1], 200, list(range(199))), ([0] * 199 + [1], 2, list(range(0, 200, 2))),
        ]:
            self.assertEqual(free_numbers(window, hop), numbers)
        for window, hop in itertools.product(WINDOWS, HOPS):
            divisors = plain_divisors_at(window, hop)
            plain = [i for i in range(len(window)) if divisors[i % hop] == 0]
            self.assertEqual(free_numbers(window, hop), plain)


class Blocking(unittest.TestCase):
    def test_told_by_hand(self):
        for window, hop, level, rest in [
            ([6, 4, 10, 15], 2, 2, None), ([6, 4, 10, 15], 2, 3, 0), ([6, 4, 10, 15], 4, 60, None),
            ([6, 4, 10, 15], 4, 30, 1), ([6, 4, 10, 15], 4, 12, 2), ([6, 4, 10, 15], 4, -12, 2), ([5], 1, -5, None),
            ([5], 2, 5, 1), ([5], 2, 0, None), ([5], 2, 1, 0), ([0, 5], 2, 5, 0), ([0, 5], 2, 0, None),
            ([5, 0], 2, 10, 1), ([5, 0], 2, -10, 1), ([1, 1, 0], 3, 1, 2), ([1] * 200, 201, 1, 200), ([1], 1000, 7, 1),
            ([LONG, LONG], 2, LONG, None), ([LONG, LONG], 2, LONG + 1, 0), ([-4, 1], 2, -8, None), ([-4, 1], 2, -6, 0),
        ]:
            self.assertEqual(blocking_rest(window, hop, level), rest, (window, hop, level))
            self.assertIs(has_partner(window, hop, level), rest is None)

    def test_against_plain_divisors(self):
        for window, hop in itertools.product(WINDOWS, HOPS):
            for level in levels_of(window, hop):
                rest = plain_blocking(window, hop, level)
                self.assertEqual(blocking_rest(window, hop, level), rest, (window, hop, level))
                self.assertIs(has_partner(window, hop, level), rest is None)

    def test_has_partner_against_all_small_lists(self):
        # Numbers from -4 to 4 are enough for entries from -3 to 3 and levels from -3 to 3.
        for many in (1, 2, 3):
            lists = [[*numbers] for numbers in itertools.product(range(-4, 5), repeat=many)]
            for entries in itertools.product(range(-3, 4), repeat=many):
                if not any(entries):
                    continue
                for hop in range(1, many + 2):
                    sums = [plain_sums([w * s for w, s in zip(entries, one)], hop) for one in lists]
                    levels = {one[0] for one in sums if len(set(one)) == 1}
                    for level in range(-3, 4):
                        self.assertIs(has_partner([*entries], hop, level), level in levels, (entries, hop, level))


class Partners(unittest.TestCase):
    def test_partners_by_the_definition(self):
        for window, hop in itertools.product(WINDOWS, HOPS):
            for level in levels_of(window, hop):
                rest = plain_blocking(window, hop, level)
                if rest is None:
                    partner = partner_of(window, hop, level)
                    self.assertTrue(is_partner(window, partner, hop, level), (window, hop, level))
                    self.assertEqual(pair_level(window, partner, hop), level)
                else:
                    self.check_no_partner(partner_of, window, hop, level, rest)

    def check_no_partner(self, call, window, hop, level, rest):
        with self.assertRaises(NoPartner) as held:
            call(window, hop, level)
        self.assertIs(type(held.exception), NoPartner)
        self.assertEqual(held.exception.rest, rest)

    def test_partners_of_small_windows_all(self):
        for entries in itertools.product(range(-3, 5), repeat=4):
            if any(entries):
                for hop, level in itertools.product((1, 2), (-6, 0, 1, 12)):
                    if plain_blocking(entries, hop, level) is None:
                        partner = partner_of([*entries], hop, level)
                        self.assertTrue(is_partner(entries, partner, hop, level), (entries, hop, level))

    def test_no_partner_told_by_hand(self):
        for call in (partner_of, least_partner):
            for window, hop, level, rest in [
                ([6, 4, 10, 15], 2, 3, 0), ([6, 4, 10, 15], 4, 12, 2), ([5], 2, 5, 1), ([1, 1, 0], 3, -1, 2),
                ([1] * 200, 201, 1, 200), ([1], 1000, 7, 1), ([2, 4], 1, LONG, 0), ([0, 1, 0, 1], 2, 1, 0),
            ]:
                self.check_no_partner(call, window, hop, level, rest)

    def test_entries_of_many_digits(self):
        # No common divisor in pairs, and a level that makes the numbers long.
        window = [LONG, LONG + 1, 10 ** 30 - 1, -(10 ** 29), 10 ** 29 + 1, 3 * 10 ** 28 + 1]
        for hop in (1, 2, 3, 6):
            for times in (0, 1, -1, LONG):
                level = plain_least_level(window, hop) * times
                self.assertTrue(is_partner(window, partner_of(window, hop, level), hop, level))

    def test_levels_with_more_digits(self):
        window = [10 ** 29 + number for number in range(200)]
        level = least_level(window, 200)
        self.assertGreater(level, 10 ** 4500)
        for call in (partner_of, least_partner):
            partner = call(window, 200, level)
            self.assertTrue(is_partner(window, partner, 200, level))
            self.assertEqual(pair_level(window, partner, 200), level)
            self.assertIs(has_partner(window, 200, level + 1), False)
            self.assertEqual(outcome(call, window, 200, level + 1), ("error", NoPartner))


def least_of_all(window, hop, level, most):
    """The least partner with numbers from -most to most, by going over all lists."""
    found = []
    for numbers in itertools.product(range(-most, most + 1), repeat=len(window)):
        if plain_sums([w * s for w, s in zip(window, numbers)], hop) == [level] * hop:
            found.append((sum(one * one for one in numbers), [*numbers]))
    return min(found)[1]


class LeastPartners(unittest.TestCase):
    def test_told_by_hand(self):
        for window, hop, level, partner in [
            ([1], 1, 5, [5]), ([-1], 1, 5, [-5]), ([1, 1], 1, 1, [0, 1]), ([1, 1], 1, 3, [1, 2]),
            ([1, 1], 1, 4, [2, 2]),
            ([1, -1], 1, 1, [0, -1]), ([1, -1], 1, -1, [-1, 0]), ([2, 1], 1, 1, [0, 1]), ([2, 1], 1, 5, [2, 1]),
            ([1, 2, 2, 1], 2, 1, [1, 0, 0, 1]), ([1, 1, 1, 1], 2, 1, [0, 0, 1, 1]), ([0, 3], 1, 6, [0, 2]),
            ([3, 0], 1, -6, [-2, 0]), ([3, 5], 1, 1, [2, -1]), ([3, 5], 2, 15, [5, 3]), ([0, 1], 2, 0, [0, 0]),
            ([5], 3, 0, [0]), ([1, 2, 2], 2, 4, [0, 2, 2]), ([LONG, 1], 1, LONG, [1, 0]), ([LONG, LONG], 1, 0, [0, 0]),
        ]:
            self.assertEqual(least_partner(window, hop, level), partner, (window, hop, level))

    def test_one_and_two_entries_against_all_lists(self):
        for many, hop in [(1, 1), (1, 2), (2, 1), (2, 2)]:
            for entries in itertools.product(range(-3, 5), repeat=many):
                if any(entries):
                    for level in range(-7, 8):
                        self.check_least([*entries], hop, level, 8)

    def test_three_entries_against_all_lists(self):
        for entries in itertools.product((-3, 0, 1, 2), repeat=3):
            if any(entries):
                for hop, level in itertools.product((2, 3), (-2, 0, 3, 6)):
                    self.check_least([*entries], hop, level, 6)

    def test_four_entries_against_all_lists(self):
        # Ties at both rests among them: the least list has the least first number at each.
        for window, hop, level in [
            ([1, 1, 1, 1], 2, 1), ([1, 1, 1, 1], 2, -3), ([1, -1, 1, -1], 2, 3), ([1, 1, -1, 1], 2, 1),
            ([3, 1, -1, 1], 2, 5), ([1, 1, 1, 1], 3, 1), ([2, 1, 2, 1], 2, 2), ([1, 3, 3, 1], 2, 5),
            ([1, 2, 3, 4], 2, 4), ([2, 2, -2, 2], 2, 2), ([0, 1, 1, 1], 2, 3), ([1, 2, 1, 0], 2, 2),
        ]:
            self.check_least(window, hop, level, 5)

    def check_least(self, window, hop, level, most):
        if plain_blocking(window, hop, level) is None:
            least = least_of_all(window, hop, level, most)
            self.assertEqual(least_partner(window, hop, level), least, (window, hop, level))

    def test_no_move_makes_it_less(self):
        # Along a move the sum of squares falls and rises once, so it is enough to try one step to each side.
        draw = random.Random(11)
        for many in (2, 7, 30, 200):
            for entries in ([1, -1], [1, 2, 3, 0], [LONG, LONG + 1, -3, 10 ** 29, 8]):
                window = [draw.choice(entries) for _ in range(many)]
                window[0] = entries[0]
                for hop in ((many + 1) // 2, many // 2 + 1, many):
                    self.check_moves(window, hop, plain_least_level(window, hop) * draw.choice((-LONG, -1, 1, 2, LONG)))

    def check_moves(self, window, hop, level):
        partner = least_partner(window, hop, level)
        self.assertTrue(is_partner(window, partner, hop, level))
        for i, k, at_i, at_k in pair_moves(window, hop):
            for times in (1, -1):
                pair = (partner[i] + times * at_i, partner[k] + times * at_k)
                squares = pair[0] ** 2 + pair[1] ** 2
                self.assertGreater((squares, pair), (partner[i] ** 2 + partner[k] ** 2, (partner[i], partner[k])))
        for number in free_numbers(window, hop):
            self.assertEqual(partner[number], 0)

    def test_partners_by_the_definition(self):
        for window, hop in itertools.product(WINDOWS, HOPS):
            if len(window) <= 2 * hop:
                for level in levels_of(window, hop):
                    rest = plain_blocking(window, hop, level)
                    if rest is None:
                        self.assertTrue(is_partner(window, least_partner(window, hop, level), hop, level))
                    else:
                        with self.assertRaises(NoPartner) as held:
                            least_partner(window, hop, level)
                        self.assertEqual(held.exception.rest, rest)

    def test_both_sides_of_two_hops(self):
        for hop in (1, 2, 3, 50, 99):
            self.assertEqual(least_partner([1] * (2 * hop), hop, 2), [1] * (2 * hop))
            # Ahead of a rest that blocks and of a wrong level.
            for level in (0, 1, 2, LONG, True):
                window = [2] * (2 * hop) + [4]
                self.assertEqual(outcome(least_partner, window, hop, level), ("error", InvalidHop))
                self.assertEqual(outcome(least_partner, [1] * 200, hop, level), ("error", InvalidHop))
        self.assertEqual(least_partner([1] * 200, 100, 2), [1] * 200)


class PairLevel(unittest.TestCase):
    def test_told_by_hand(self):
        for window, other, hop, level in [
            ([1, 2, 2, 1], [1, 0, 0, 1], 2, 1), ([1, 2, 2, 1], [1, 0, 0, 2], 2, None), ([5], [3], 1, 15),
            ([5], [3], 2, None), ([5], [0], 2, 0), ([5], [0], 1000, 0), ([0, 5], [9, 0], 2, 0),
            ([0, 5], [9, 1], 2, None),
            ([1, 1], [1, -1], 1, 0), ([LONG, 1], [1, LONG], 2, LONG), ([LONG, 1], [-1, -LONG], 2, -LONG),
            ([1, 2, 3], [0, 0, 0], 2, 0), ([1, 1, 1, 1], [2, 2, 1, 0], 2, None), ([1, 1, 1], [1, 1, 2], 3, None),
        ]:
            self.assertEqual(pair_level(window, other, hop), level, (window, other, hop))
            self.assertIs(type(pair_level(window, other, hop)), type(level))

    def test_all_small_lists(self):
        for window in ([1, 2, 3], [2, 0, -2], [0, 0, 1], [1, 1, 1]):
            for other in itertools.product((-2, 0, 1, 3), repeat=3):
                for hop in (1, 2, 3, 4):
                    sums = plain_sums([w * s for w, s in zip(window, other)], hop)
                    expected = sums[0] if len(set(sums)) == 1 else None
                    self.assertEqual(pair_level(window, [*other], hop), expected)

    def test_partners_that_are_no_more(self):
        for window, hop in itertools.product(WINDOWS, (1, 2, 3, 200)):
            level = plain_least_level(window, hop)
            partner = partner_of(window, hop, level)
            for number in (0, len(window) - 1):
                changed = partner[:number] + [partner[number] + 1] + partner[number + 1:]
                expected = level if window[number] == 0 else None
                if hop == 1:
                    expected = level + window[number]
                self.assertEqual(pair_level(window, changed, hop), expected, (window, hop, number))

    def test_other_of_another_length(self):
        for window in ([1], [1, 2], [1, 2, 3], [1] * 199):
            for other in ([], window + [1], window[:-1], window + window, [0] * (len(window) + 1), [1] * 300):
                for hop in (1, 2, 0, 1001):
                    self.assertEqual(outcome(pair_level, window, other, hop), ("error", InvalidWindow))

    def test_other_that_is_no_list_of_integers(self):
        for thing in wrong_windows():
            # A list of integers of the right length is allowed, although it is no window.
            if isinstance(thing, list) and thing and all(type(one) is int for one in thing):
                continue
            for many in (1, 2, 3, 4, 200):
                for hop in (1, 0):
                    self.assertEqual(outcome(pair_level, [1] * many, thing, hop), ("error", InvalidWindow), thing)
        for other in ([True, 0], [1, False], [1, None], (1, 2), [1, "2"], [1, [2]], "12", {0: 1, 1: 2}, [[1, 2]]):
            self.assertEqual(outcome(pair_level, [3, 4], other, 1), ("error", InvalidWindow))


class PairMoves(unittest.TestCase):
    def test_told_by_hand(self):
        for window, hop, moves in [
            ([1], 1, []), ([1, 2], 2, []), ([1, 2], 1, [(0, 1, 2, -1)]), ([2, 4], 1, [(0, 1, 2, -1)]),
            ([-1, 2], 1, [(0, 1, 2, 1)]), ([1, -2], 1, [(0, 1, 2, 1)]), ([-1, -2], 1, [(0, 1, 2, -1)]),
            ([0, 5], 1, [(0, 1, 1, 0)]), ([0, -5], 1, [(0, 1, 1, 0)]), ([5, 0], 1, [(0, 1, 0, 1)]),
            ([-5, 0], 1, [(0, 1, 0, 1)]), ([0, 1, 0], 1, [(0, 1, 1, 0), (1, 2, 0, 1)]), ([0, 1, 0], 2, []),
            ([6, 4, 10, 15], 2, [(0, 2, 5, -3), (1, 3, 15, -4)]), ([6, 4, 10, 15], 3, [(0, 3, 5, -2)]),
            ([1, 1, 1], 1, [(0, 1, 1, -1), (0, 2, 1, -1), (1, 2, 1, -1)]), ([LONG, -LONG], 1, [(0, 1, 1, 1)]),
            ([1, 0, 2, 0, 3], 2, [(0, 2, 2, -1), (0, 4, 3, -1), (2, 4, 3, -2)]), ([1, 2], 1000, []),
        ]:
            self.assertEqual(pair_moves(window, hop), moves, (window, hop))

    def test_entry_by_entry(self):
        for window, hop in itertools.product(WINDOWS[:-3], (1, 2, 3, 4, 39, 40, 1000)):
            pairs = [
                (i, k) for i, k in itertools.combinations(range(len(window)), 2)
                if (k - i) % hop == 0 and (window[i], window[k]) != (0, 0)
            ]
            moves = pair_moves(window, hop)
            self.assertEqual([(i, k) for i, k, _, _ in moves], pairs)
            self.assertTrue(all(type(move) is tuple for move in moves))
            for i, k, at_i, at_k in moves:
                divisor = math.gcd(window[i], window[k])
                self.assertEqual((abs(at_i) * divisor, abs(at_k) * divisor), (abs(window[k]), abs(window[i])))
                self.assertEqual(window[i] * at_i + window[k] * at_k, 0)
                self.assertTrue(at_i > 0 or (at_i == 0 and at_k > 0))

    def test_moves_keep_the_level(self):
        for window, hop in itertools.product(WINDOWS, (1, 2, 3, 100)):
            level = plain_least_level(window, hop)
            partner = partner_of(window, hop, level)
            for i, k, at_i, at_k in pair_moves(window, hop)[:60]:
                moved = list(partner)
                moved[i] += 7 * at_i
                moved[k] += 7 * at_k
                self.assertEqual(pair_level(window, moved, hop), level)
            for number in free_numbers(window, hop):
                moved = list(partner)
                moved[number] = LONG
                self.assertEqual(pair_level(window, moved, hop), level)

    def test_how_many_at_most(self):
        self.assertEqual(len(pair_moves([1] * 200, 1)), 200 * 199 // 2)
        self.assertEqual(len(pair_moves([0] * 199 + [1], 1)), 199)


class Limits(unittest.TestCase):
    def test_wrong_windows(self):
        for thing in wrong_windows():
            for call in AT_A_LEVEL:
                self.assertEqual(outcome(call, thing, 200, 1), ("error", InvalidWindow))
            for call in (rest_divisors, least_level, pair_moves, free_numbers):
                self.assertEqual(outcome(call, thing, 1), ("error", InvalidWindow))
            self.assertEqual(outcome(pair_level, thing, [1], 1), ("error", InvalidWindow))
            self.assertEqual(outcome(pair_level, thing, thing, 1), ("error", InvalidWindow))

    def test_wrong_hops(self):
        # No subTest: the first failure ends the test, ahead of the long hops that would take long if they passed.
        for window, hop in itertools.product(([1], [1, 2], [1] * 200), WRONG_HOPS):
            for call in (rest_divisors, least_level, pair_moves, free_numbers):
                self.assertEqual(outcome(call, window, hop), ("error", InvalidHop), (call, hop))
            for call, level in itertools.product(AT_A_LEVEL, (0, 1, True)):
                self.assertEqual(outcome(call, window, hop, level), ("error", InvalidHop), (call, hop))
            self.assertEqual(outcome(pair_level, window, window, hop), ("error", InvalidHop), hop)

    def test_greatest_hop(self):
        self.assertEqual(rest_divisors([4], 1000), [4] + [0] * 999)
        self.assertEqual(least_level([4], 1000), 0)
        self.assertEqual(blocking_rest([4], 1000, 4), 1)
        self.assertIs(has_partner([4], 1000, 0), True)
        self.assertEqual(partner_of([4], 1000, 0), [0])
        self.assertEqual(least_partner([4], 1000, 0), [0])
        self.assertEqual(pair_level([4], [0], 1000), 0)
        self.assertEqual(pair_moves([4], 1000), [])
        self.assertEqual(free_numbers([4, 0], 1000), [1])

    def test_wrong_levels(self):
        for call, level in itertools.product(AT_A_LEVEL, (True, False)):
            self.assertEqual(outcome(call, [1, 1], 1, level), ("error", InvalidNumber))
            # Ahead of the rest that blocks.
            self.assertEqual(outcome(call, [4, 0], 2, level), ("error", InvalidNumber))

    def test_the_first_wrong_one_decides(self):
        for thing in some_wrong_windows():
            for call in AT_A_LEVEL:
                self.assertEqual(outcome(call, thing, 0, True), ("error", InvalidWindow))
            self.assertEqual(outcome(pair_level, thing, None, 0), ("error", InvalidWindow))


if __name__ == "__main__":
    unittest.main()
