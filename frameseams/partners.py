"""Partners of windows: lists whose products with a window, entry by entry, have a level at a hop."""

from math import gcd, lcm

from frameseams.checks import is_integer_list, need_hop, need_integer
from frameseams.entries import are_equal, sums_at
from frameseams.errors import InvalidHop, InvalidWindow, NoPartner
from frameseams.windows import need_window


def rest_divisors(window, hop):
    """For each rest the greatest common divisor of the entries there, 0 if there is none but zeros."""
    need_window(window)
    need_hop(hop)
    return [_divisors_from_left(window[rest::hop])[-1] for rest in range(hop)]


def least_level(window, hop):
    """The least common multiple of the rests' divisors, 0 if one of them is 0."""
    level = 1
    for divisor in rest_divisors(window, hop):
        level = lcm(level, divisor)
    return level


def blocking_rest(window, hop, level):
    """The least rest whose divisor does not divide the level, or None."""
    divisors = rest_divisors(window, hop)
    need_integer(level)
    for rest, divisor in enumerate(divisors):
        # Together with 0 the divisor of both is the level, which is 0 alone if 0 divides it.
        if gcd(level, divisor) != divisor:
            return rest
    return None


def has_partner(window, hop, level):
    return blocking_rest(window, hop, level) is None


def partner_of(window, hop, level):
    """A partner of the window at hop with the level."""
    _need_partner(window, hop, level)
    partner = [0] * len(window)
    for rest in range(hop):
        partner[rest::hop] = _numbers_for(window[rest::hop], level)
    return partner


def least_partner(window, hop, level):
    """The partner with the least sum of squares; of several ones the least list."""
    need_window(window)
    need_hop(hop)
    if len(window) > 2 * hop:
        raise InvalidHop("the window has more than two entries at a rest")
    _need_partner(window, hop, level)
    partner = [0] * len(window)
    # A rest's first number stands ahead of all second ones, so the least list has each rest's least numbers.
    for rest in range(hop):
        partner[rest::hop] = _least_numbers_for(window[rest::hop], level)
    return partner


def pair_level(window, other, hop):
    """The level if other is a partner of the window at hop, else None."""
    need_window(window)
    many = len(window)
    if not is_integer_list(other, many) or len(other) != many:
        raise InvalidWindow("the other is no list of as many integers as the window has")
    need_hop(hop)
    sums = sums_at([entry * number for entry, number in zip(window, other)], hop)
    if are_equal(sums):
        return sums[0]
    return None


def pair_moves(window, hop):
    """The ascending list of the tuples (i, k, at_i, at_k) that change two numbers of a partner, but not its level."""
    need_window(window)
    need_hop(hop)
    moves = []
    for i in range(len(window)):
        for k in range(i + hop, len(window), hop):
            if window[i] != 0 or window[k] != 0:
                at_i, at_k = _move(window[i], window[k])
                moves.append((i, k, at_i, at_k))
    return moves


def free_numbers(window, hop):
    """The ascending list of the numbers at which a partner may have anything."""
    divisors = rest_divisors(window, hop)
    return [number for number in range(len(window)) if divisors[number % hop] == 0]


def _need_partner(window, hop, level):
    rest = blocking_rest(window, hop, level)
    if rest is not None:
        raise NoPartner(rest)


def _divisors_from_left(entries):
    """A list: at k the greatest common divisor of the first k entries, 0 if there is none but zeros."""
    divisors = [0]
    for entry in entries:
        divisors.append(gcd(divisors[-1], entry))
    return divisors


def _move(first, second):
    divisor = gcd(first, second)
    at_first, at_second = second // divisor, -first // divisor
    if (at_first, at_second) < (0, 0):
        return (-at_first, -at_second)
    return (at_first, at_second)


def _numbers_for(entries, level):
    """Numbers whose products with the entries add up to the level, a multiple of the entries' divisor."""
    divisors = _divisors_from_left(entries)
    numbers = [0] * len(entries)
    left = level
    # From the right, so that each entry leaves a multiple of what the ones ahead of it can make.
    for k in reversed(range(len(entries))):
        numbers[k] = _number_for(entries[k], divisors[k], left)
        left -= entries[k] * numbers[k]
    return numbers


def _number_for(entry, modulus, level):
    """The least number from 0 on whose product with the entry leaves the level's rest at the modulus.

    With the modulus 0 the product is the level itself.
    """
    divisor, times = _bezout(modulus, entry)
    if divisor == 0:
        return 0
    number = times * (level // divisor)
    if modulus == 0:
        return number
    return number % (modulus // divisor)


def _bezout(modulus, entry):
    """The greatest common divisor of both, and a number that times the entry leaves its rest at the modulus."""
    divisor, other = modulus, entry
    times, other_times = 0, 1
    while other != 0:
        quotient = divisor // other
        divisor, other = other, divisor - quotient * other
        times, other_times = other_times, times - quotient * other_times
    if divisor < 0:
        return (-divisor, -times)
    return (divisor, times)


def _least_numbers_for(entries, level):
    """Of the numbers for at most two entries those with the least sum of squares, and of these the least ones."""
    numbers = _numbers_for(entries, level)
    if len(entries) < 2 or not any(entries):
        return numbers
    first_step, second_step = _move(entries[0], entries[1])
    first, second = numbers
    # The sum of squares falls up to this many steps and rises again: one of the two numbers of steps around is best.
    square = first_step * first_step + second_step * second_step
    steps = -(first * first_step + second * second_step) // square
    pairs = [[first + k * first_step, second + k * second_step] for k in (steps, steps + 1)]
    return min(pairs, key=lambda pair: (pair[0] * pair[0] + pair[1] * pair[1], pair))
