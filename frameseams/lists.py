"""Lists of integers that are told back from their rest sums at two hops."""

from math import gcd

from frameseams.checks import need_hop, need_list, need_number
from frameseams.entries import multiplied, spread, sums_at
from frameseams.errors import InvalidNumber, NoList

MOST_SUMS = 200
GREATEST_LENGTH = 400


def folded(sums, by):
    """The rest sums at by of the list whose rest sums are given; by divides how many they are."""
    need_list(sums, MOST_SUMS)
    need_number(by, 1, len(sums))
    if len(sums) % by != 0:
        raise InvalidNumber("the number does not divide how many sums there are")
    return sums_at(sums, by)


def agree(sums, other):
    """Whether both have the same rest sums at the greatest common divisor of their hops."""
    return first_clash(sums, other) is None


def first_clash(sums, other):
    """The least rest at the greatest common divisor of both hops at which the rest sums differ, or None."""
    _need_both(sums, other)
    common = gcd(len(sums), len(other))
    for rest, (one, another) in enumerate(zip(sums_at(sums, common), sums_at(other, common))):
        if one != another:
            return rest
    return None


def told_back(sums, other, length):
    """The only list of length integers with these rest sums."""
    _need_both(sums, other)
    need_number(length, 1, _told_length(len(sums), len(other)))
    return _list_with(sums, other, length)


def some_list(sums, other, length):
    """A list of length integers with these rest sums."""
    _need_both(sums, other)
    need_number(length, 1, GREATEST_LENGTH)
    return _list_with(sums, other, length)


def has_ring(first, second, length):
    """Whether a list of length integers, not all 0, has only rest sums of 0 at both hops."""
    _need_hops(first, second)
    need_number(length, 1, GREATEST_LENGTH)
    return length > _told_length(first, second)


def ring_of(first, second):
    """The shortest list with only rest sums of 0 at both hops that ends with 1."""
    _need_hops(first, second)
    common = gcd(first, second)
    # Each factor has rest sums of 0 at one hop. What both have from the greatest common divisor is needed once alone.
    ones = spread([1] * (first // common), common)
    return multiplied(ones, [-1] + [0] * (second - 1) + [1])


def _need_both(sums, other):
    need_list(sums, MOST_SUMS)
    need_list(other, MOST_SUMS)


def _need_hops(first, second):
    need_hop(first, 1, MOST_SUMS)
    need_hop(second, 1, MOST_SUMS)


def _told_length(first, second):
    """The greatest length of lists that their rest sums at both hops tell alone."""
    return first + second - gcd(first, second)


def _list_with(sums, other, length):
    """A list with these rest sums; it has 0 at the numbers that close a ring of joined points."""
    left = sums + other
    joins = _joins(len(sums), len(other), length)
    entries = [0] * length
    reached = {}
    for root in range(len(left)):
        if root in reached:
            continue
        # From the outermost points inwards: each one gives what is left of its sum to the only number it still has.
        for point, number, inner in reversed(_branches(root, joins)):
            reached[point] = True
            entries[number] = left[point]
            left[inner] -= left[point]
        # What the root still lacks is the difference of both sides, and the root is the least of its points.
        if left[root] != 0:
            raise NoList(root)
    return entries


def _joins(first, second, length):
    """For each point the tuples of a number and the other point that the number joins it with."""
    joins = [[] for _ in range(first + second)]
    for number in range(length):
        one, another = number % first, first + number % second
        joins[one].append((number, another))
        joins[another].append((number, one))
    return joins


def _branches(root, joins):
    """For each point that is joined with the root: the point, a number, and the point it joins it with.

    That other point is the root or stands ahead.
    """
    branches = []
    reached = {root: True}
    waiting = [root]
    while waiting:
        inner = waiting.pop()
        for number, point in joins[inner]:
            if point not in reached:
                reached[point] = True
                branches.append((point, number, inner))
                waiting.append(point)
    return branches
