"""[12] and R6 of [4]: lists that are told back from their rest sums at two hops."""

import fractions
import itertools
import math
import random
import unittest

from frameseams.errors import InvalidHop, InvalidList, InvalidNumber, NoList
from frameseams.lists import agree, first_clash, folded, has_ring, ring_of, some_list, told_back
from helpers import LONG, outcome, plain_divisors, plain_sums, some_wrong_lists, wrong_lists

# Hops with a common divisor, without one, equal ones, and where one divides the other.
HOPS = [
    (1, 1), (1, 7), (7, 1), (2, 2), (2, 3), (3, 2), (2, 4), (4, 2), (4, 6), (6, 4), (6, 10), (6, 15), (5, 5), (9, 8),
    (12, 18), (30, 42), (100, 100), (100, 150), (128, 96), (1, 200), (200, 1), (199, 200), (200, 199), (200, 200),
    (200, 100), (100, 200), (197, 199),
]
WRONG_SUMS = [[], [0] * 201, [1] * 201, [1] * 4000]
WRONG_LENGTHS = [0, -1, -400, 401, 402, LONG, -LONG, True, False]
WRONG_HOPS = [0, -1, -200, 201, 202, 1000, LONG, -LONG, True, False]


def drawn(many, seed=0):
    """A list of small and long integers, negative ones and zeros among them."""
    draw = random.Random(seed * 1000 + many)
    return [draw.choice((0, 1, -1, 2, 7, -30, LONG, -LONG, 10 ** 30 - 1, draw.randint(-99, 99))) for _ in range(many)]


def told_length(first, second):
    return first + second - math.gcd(first, second)


def joined_sets(first, second, length):
    """All sets of points that are joined, directly or by others, by merging sets as long as two of them share a point.

    They are told as ascending lists, the one with the least point first.
    """
    sets = [{point} for point in range(first + second)]
    for number in range(length):
        both = {number % first, first + number % second}
        sets = [one for one in sets if not one & both] + [set().union(*(one for one in sets if one & both))]
    return sorted(sorted(one) for one in sets)


def plain_clash(sums, other, length):
    """The least point of the first set that does not agree, or None."""
    for points in joined_sets(len(sums), len(other), length):
        left = sum(sums[point] for point in points if point < len(sums))
        right = sum(other[point - len(sums)] for point in points if point >= len(sums))
        if left != right:
            return points[0]
    return None


def plain_rank(rows):
    """The rank of a matrix, by elimination over fractions."""
    rows = [[fractions.Fraction(entry) for entry in row] for row in rows]
    rank = 0
    for column in range(len(rows[0])):
        at = next((k for k in range(rank, len(rows)) if rows[k][column] != 0), None)
        if at is None:
            continue
        rows[rank], rows[at] = rows[at], rows[rank]
        for k in range(rank + 1, len(rows)):
            times = rows[k][column] / rows[rank][column]
            rows[k] = [one - times * other for one, other in zip(rows[k], rows[rank])]
        rank += 1
    return rank


def plain_has_ring(first, second, length):
    """Whether the equations of the rest sums at both hops leave anything but zeros."""
    rows = [[int(number % first == rest) for number in range(length)] for rest in range(first)]
    rows += [[int(number % second == rest) for number in range(length)] for rest in range(second)]
    return plain_rank(rows) < length


class Folded(unittest.TestCase):
    def test_told_by_hand(self):
        for sums, by, shorter in [
            ([5], 1, [5]), ([1, 2], 1, [3]), ([1, 2], 2, [1, 2]), ([1, 2, 3, 4, 5, 6], 3, [5, 7, 9]),
            ([1, 2, 3, 4, 5, 6], 2, [9, 12]), ([0, 0, 0, 0], 2, [0, 0]), ([LONG, -LONG, 1, LONG], 2, [LONG + 1, 0]),
        ]:
            self.assertEqual(folded(sums, by), shorter)

    def test_at_every_divisor(self):
        for many in (1, 2, 3, 4, 6, 12, 30, 97, 128, 180, 199, 200):
            sums = drawn(many)
            for by in plain_divisors([many]):
                self.assertEqual(folded(sums, by), plain_sums(sums, by))
            self.assertEqual(folded(sums, 1), [sum(sums)])
            self.assertEqual(folded(sums, many), sums)
            self.assertIsNot(folded(sums, many), sums)

    def test_rest_sums_of_rest_sums(self):
        entries = drawn(333)
        for hop in (1, 12, 60, 200):
            for by in plain_divisors([hop]):
                self.assertEqual(folded(plain_sums(entries, hop), by), plain_sums(entries, by))

    def test_numbers_that_do_not_divide(self):
        for many in (1, 2, 6, 12, 97, 199, 200):
            divisors = plain_divisors([many])
            for by in range(-3, many + 3):
                if by not in divisors:
                    self.assertEqual(outcome(folded, [1] * many, by), ("error", InvalidNumber), (many, by))
            for by in (-many, 2 * many, LONG, -LONG, True, False):
                self.assertEqual(outcome(folded, [1] * many, by), ("error", InvalidNumber), (many, by))

    def test_both_sides_of_the_length(self):
        self.assertEqual(folded([4], 1), [4])
        self.assertEqual(folded([1] * 200, 100), [2] * 100)
        for sums in WRONG_SUMS:
            self.assertEqual(outcome(folded, sums, 1), ("error", InvalidList))


class Agree(unittest.TestCase):
    def check(self, sums, other, rest):
        self.assertEqual(first_clash(sums, other), rest, (sums, other))
        self.assertIs(type(first_clash(sums, other)), type(rest))
        self.assertIs(agree(sums, other), rest is None)

    def test_told_by_hand(self):
        for sums, other, rest in [
            ([1], [1], None), ([1], [2], 0), ([3], [1, 2], None), ([1, 2], [3], None), ([1, 2], [4], 0),
            ([1, 2], [2, 1], 0), ([1, 2], [1, 3], 1), ([1, 2], [1, 1, 1], None), ([1, 2, 3, 4], [4, 6], None),
            ([1, 2, 3, 4], [6, 4], 0), ([1, 2, 3, 4], [4, 7], 1), ([1, 2, 3, 4], [0, 1, 4, 5, 0, 0], None),
            ([1, 2, 3, 4], [0, 1, 4, 5, 0, 1], 1), ([0, 0], [1, -1, 0], None), ([0] * 200, [0] * 199, None),
            ([LONG, 1], [1, LONG], 0), ([LONG, 1], [LONG + 1], None), ([0] * 199 + [1], [0] * 200, 199),
        ]:
            self.check(sums, other, rest)

    def test_sums_of_one_list(self):
        for first, second in HOPS:
            for many in (1, 5, 200, 400):
                entries = drawn(many)
                self.check(plain_sums(entries, first), plain_sums(entries, second), None)

    def test_one_sum_changed(self):
        for first, second in HOPS:
            entries = drawn(300, first)
            common = math.gcd(first, second)
            for rest in {0, first - 1, first // 2}:
                sums = plain_sums(entries, first)
                sums[rest] += 1
                self.check(sums, plain_sums(entries, second), rest % common)
            for rest in {0, second - 1, second // 2}:
                other = plain_sums(entries, second)
                other[rest] -= LONG
                self.check(plain_sums(entries, first), other, rest % common)

    def test_several_sums_changed(self):
        for first, second in [(4, 6), (6, 6), (3, 5), (12, 18)]:
            common = math.gcd(first, second)
            for seed in range(60):
                draw = random.Random(seed)
                sums, other = plain_sums(drawn(40), first), plain_sums(drawn(40), second)
                for _ in range(3):
                    sums[draw.randrange(first)] += draw.choice((-1, 0, 1))
                    other[draw.randrange(second)] += draw.choice((-1, 0, 1))
                folds = zip(plain_sums(sums, common), plain_sums(other, common))
                clashes = [rest for rest, (one, another) in enumerate(folds) if one != another]
                self.check(sums, other, clashes[0] if clashes else None)


class ToldBack(unittest.TestCase):
    def check(self, entries, first, second):
        sums, other = plain_sums(entries, first), plain_sums(entries, second)
        told = told_back(sums, other, len(entries))
        self.assertEqual(told, entries, (first, second))
        self.assertTrue(all(type(entry) is int for entry in told))

    def test_small_hops_at_every_length(self):
        for first, second in itertools.product(range(1, 13), repeat=2):
            for length in range(1, told_length(first, second) + 1):
                self.check(drawn(length, first), first, second)

    def test_great_hops(self):
        for first, second in HOPS:
            greatest = told_length(first, second)
            for length in {1, min(first, second), max(first, second), greatest // 2, greatest - 1, greatest} - {0}:
                self.check(drawn(length), first, second)

    def test_longest_of_all(self):
        # 398 integers; every other one of them is long.
        self.check([LONG * (k % 2) - k * k for k in range(398)], 199, 200)

    def test_by_hand(self):
        self.assertEqual(told_back([4, 2], [1, 2, 3], 4), [1, 2, 3, 0])
        self.assertEqual(told_back([4, 2], [4, 2], 1 + 1), [4, 2])
        self.assertEqual(told_back([7], [3, 4], 2), [3, 4])
        self.assertEqual(told_back([7], [7], 1), [7])
        self.assertEqual(told_back([0, 0, -5], [0, -5], 4), [5, 0, -5, -5])

    def test_both_sides_of_the_length(self):
        for first, second in HOPS:
            greatest = told_length(first, second)
            sums, other = plain_sums([3], first), plain_sums([3], second)
            self.assertEqual(told_back(sums, other, greatest), [3] + [0] * (greatest - 1))
            for length in (greatest + 1, greatest + 2, 400, *WRONG_LENGTHS):
                self.assertEqual(outcome(told_back, sums, other, length), ("error", InvalidNumber), (first, second))
                # Ahead of sums that no list has.
                self.assertEqual(outcome(told_back, sums, [9] * second, length), ("error", InvalidNumber))


class SomeList(unittest.TestCase):
    def check(self, sums, other, length):
        told = some_list(sums, other, length)
        self.assertEqual(len(told), length)
        self.assertTrue(all(type(entry) is int for entry in told))
        self.assertEqual((plain_sums(told, len(sums)), plain_sums(told, len(other))), (sums, other))

    def test_sums_of_a_list(self):
        for first, second in HOPS:
            for length in {1, 2, 10, 199, 200, 399, 400, told_length(first, second), told_length(first, second) + 1}:
                entries = drawn(length, second)
                self.check(plain_sums(entries, first), plain_sums(entries, second), length)

    def test_small_hops_at_every_length(self):
        for first, second in itertools.product(range(1, 9), repeat=2):
            for length in range(1, 3 * (first + second)):
                entries = drawn(length, first)
                sums, other = plain_sums(entries, first), plain_sums(entries, second)
                self.check(sums, other, length)
                if length <= told_length(first, second):
                    self.assertEqual(some_list(sums, other, length), entries)

    def test_sums_that_agree(self):
        for first, second in HOPS:
            length = told_length(first, second)
            sums, other = drawn(first, 3), drawn(second, 4)
            # Any sums with the same folded ones belong to a list of this length.
            common = math.gcd(first, second)
            for rest in range(common):
                other[rest] += plain_sums(sums, common)[rest] - plain_sums(other, common)[rest]
            for many in {length, min(length + 7, 400), 400}:
                self.check(sums, other, many)
            self.assertEqual(told_back(sums, other, length), some_list(sums, other, length))

    def test_both_sides_of_the_length(self):
        self.check([1], [1], 1)
        self.check([1] * 200, [1] * 200, 400)
        for length in WRONG_LENGTHS:
            for sums, other in [([1], [1]), ([1], [2]), ([0] * 200, [0] * 200)]:
                self.assertEqual(outcome(some_list, sums, other, length), ("error", InvalidNumber))


class NoLists(unittest.TestCase):
    def check(self, sums, other, length):
        point = plain_clash(sums, other, length)
        calls = [some_list]
        if length <= told_length(len(sums), len(other)):
            calls.append(told_back)
        for call in calls:
            if point is None:
                told = call(sums, other, length)
                self.assertEqual((plain_sums(told, len(sums)), plain_sums(told, len(other))), (sums, other))
                self.assertEqual(len(told), length)
                continue
            with self.assertRaises(NoList) as held:
                call(sums, other, length)
            self.assertIs(type(held.exception), NoList)
            self.assertEqual(held.exception.point, point, (sums, other, length))

    def test_told_by_hand(self):
        for sums, other, length, point in [
            ([1], [2], 1, 0), ([1, 1], [1], 1, 1), ([1, 0], [1], 1, None), ([1], [1, 1], 1, 2), ([1], [1, 0], 1, None),
            ([0, 1], [1], 1, 0), ([1, 2], [2, 1], 5, 0), ([1, 2, 0], [1, 2, 1], 2, 5), ([1, 2, 7], [1, 2, 1], 2, 2),
            ([1, 2], [3], 1, 0), ([0, 3], [3], 1, 0), ([1, -1], [0], 2, None), ([0, 0, 0, 1], [0, 0, 0], 3, 3),
            ([1, 2, 3], [2, 1, 3, 0], 3, 0), ([5, 2, 3], [5, 3, 2, 0], 3, 1),
        ]:
            self.assertEqual(plain_clash(sums, other, length), point)
            self.check(sums, other, length)

    def test_all_small_sums(self):
        for first, second in itertools.product((1, 2, 3), repeat=2):
            for length in range(1, first + second + 2):
                for both in itertools.product((-1, 0, 1), repeat=first + second):
                    self.check([*both[:first]], [*both[first:]], length)

    def test_one_sum_changed_at_every_length(self):
        for first, second in [(4, 6), (6, 4), (5, 7), (6, 6), (3, 9), (9, 3), (8, 1), (1, 8), (12, 18)]:
            for length in range(1, 2 * (first + second)):
                entries = drawn(length, length)
                for rest in range(first + second):
                    both = plain_sums(entries, first) + plain_sums(entries, second)
                    both[rest] += 1
                    self.check(both[:first], both[first:], length)

    def test_two_sums_changed(self):
        # Changes that agree within one set, and such that two sets lack what they need.
        for first, second, length in itertools.product((4, 6, 9), (4, 6, 10), (1, 3, 5, 8, 12, 30)):
            entries = drawn(length, first)
            for one, another in itertools.combinations(range(first + second), 2):
                both = plain_sums(entries, first) + plain_sums(entries, second)
                both[one] += LONG
                both[another] += LONG
                self.check(both[:first], both[first:], length)

    def test_great_hops(self):
        for first, second in HOPS[-12:]:
            for length in {1, 2, 99, 150, 199, 200, 201, 300, 399, 400}:
                both = plain_sums(drawn(length), first) + plain_sums(drawn(length), second)
                for rest in (0, first - 1, first, first + second - 1):
                    changed = list(both)
                    changed[rest] -= 1
                    self.check(changed[:first], changed[first:], length)

    def test_points_that_are_joined_with_none(self):
        for first, second, length in [(5, 3, 1), (3, 5, 2), (200, 200, 1), (200, 7, 100), (7, 200, 100)]:
            self.check([0] * first, [0] * second, length)
            for rest in range(length, max(first, second)):
                if rest < first:
                    self.check([0] * rest + [1] + [0] * (first - 1 - rest), [0] * second, length)
                if rest < second:
                    self.check([0] * first, [0] * rest + [-LONG] + [0] * (second - 1 - rest), length)


class Rings(unittest.TestCase):
    def test_has_ring_against_equations(self):
        for first, second in itertools.product(range(1, 8), repeat=2):
            for length in range(1, first + second + 3):
                expected = plain_has_ring(first, second, length)
                self.assertIs(has_ring(first, second, length), expected, (first, second, length))

    def test_has_ring_at_its_least_length(self):
        for first, second in HOPS:
            greatest = told_length(first, second)
            for length in range(max(1, greatest - 2), min(greatest + 3, 401)):
                self.assertIs(has_ring(first, second, length), length > greatest, (first, second, length))
            self.assertIs(has_ring(first, second, 1), greatest < 1)
            self.assertIs(has_ring(first, second, 400), greatest < 400)

    def test_ring_by_hand(self):
        for first, second, ring in [
            (1, 1, [-1, 1]), (1, 2, [-1, 0, 1]), (2, 1, [-1, 0, 1]), (2, 2, [-1, 0, 1]), (3, 3, [-1, 0, 0, 1]),
            (2, 3, [-1, -1, 0, 1, 1]), (3, 2, [-1, -1, 0, 1, 1]), (2, 4, [-1, 0, 0, 0, 1]), (4, 2, [-1, 0, 0, 0, 1]),
            (4, 6, [-1, 0, -1, 0, 0, 0, 1, 0, 1]),
        ]:
            self.assertEqual(ring_of(first, second), ring)

    def test_ring_by_its_sums(self):
        for first, second in HOPS + list(itertools.product(range(1, 15), repeat=2)):
            ring = ring_of(first, second)
            self.assertEqual(plain_sums(ring, first), [0] * first)
            self.assertEqual(plain_sums(ring, second), [0] * second)
            self.assertEqual(ring[-1], 1)
            self.assertEqual(len(ring), told_length(first, second) + 1)
            self.assertTrue(all(type(entry) is int for entry in ring))

    def test_ring_changes_what_is_told(self):
        # Beyond the length up to which sums tell a list there is another one with the same sums.
        for first, second in [(2, 3), (4, 6), (199, 200), (200, 200)]:
            ring = ring_of(first, second)
            entries = drawn(len(ring))
            moved = [entry + LONG * other for entry, other in zip(entries, ring)]
            for hop in (first, second):
                self.assertEqual(plain_sums(moved, hop), plain_sums(entries, hop))

    def test_limits_of_the_hops(self):
        self.assertIs(has_ring(200, 200, 201), True)
        self.assertIs(has_ring(1, 1, 1), False)
        for wrong in WRONG_HOPS:
            for call, more in [(has_ring, (5,)), (has_ring, (0,)), (has_ring, (401,)), (ring_of, ())]:
                self.assertEqual(outcome(call, wrong, 2, *more), ("error", InvalidHop))
                self.assertEqual(outcome(call, 2, wrong, *more), ("error", InvalidHop))
                self.assertEqual(outcome(call, 200, wrong, *more), ("error", InvalidHop))

    def test_limits_of_the_length(self):
        for wrong in WRONG_LENGTHS:
            for first, second in [(1, 1), (3, 5), (200, 200)]:
                self.assertEqual(outcome(has_ring, first, second, wrong), ("error", InvalidNumber))


class WrongLists(unittest.TestCase):
    def test_any_object(self):
        for thing in wrong_lists() + WRONG_SUMS:
            for good in ([0], [1, 2, 3], [1] * 200):
                self.assertEqual(outcome(folded, thing, 1), ("error", InvalidList))
                for call in (agree, first_clash):
                    self.assertEqual(outcome(call, thing, good), ("error", InvalidList), thing)
                    self.assertEqual(outcome(call, good, thing), ("error", InvalidList), thing)
                for call in (told_back, some_list):
                    for length in (1, 0, 401):
                        self.assertEqual(outcome(call, thing, good, length), ("error", InvalidList), thing)
                        self.assertEqual(outcome(call, good, thing, length), ("error", InvalidList), thing)

    def test_both_wrong(self):
        for thing, other in itertools.product(some_wrong_lists(), repeat=2):
            for call, more in [(agree, ()), (first_clash, ()), (told_back, (0,)), (some_list, (True,))]:
                self.assertEqual(outcome(call, thing, other, *more), ("error", InvalidList))
            self.assertEqual(outcome(folded, thing, 0), ("error", InvalidList))

    def test_zeros_are_allowed(self):
        self.assertEqual(folded([0], 1), [0])
        self.assertIs(agree([0, 0], [0, 0, 0]), True)
        self.assertEqual(some_list([0, 0], [0], 2), [0, 0])
        self.assertEqual(told_back([0] * 200, [0] * 200, 200), [0] * 200)


if __name__ == "__main__":
    unittest.main()
