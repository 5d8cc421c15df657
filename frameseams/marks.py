"""Marks of windows, their crossings and multiplicities, the order of a window at a hop, and its moments."""

from frameseams.checks import GREATEST_MARK, need_hop, need_mark, need_number
from frameseams.entries import are_equal, divided, sums_at
from frameseams.factors import mark_factor, phi, prime_divisors
from frameseams.windows import need_window

GREATEST_POWER = 20


def marks_of(window):
    """The ascending list of all marks of the window."""
    need_window(window)
    # A mark's phi is below the number of entries, 200 at most; the greatest number with such a phi is 840.
    marks = range(2, GREATEST_MARK + 1)
    return [mark for mark in marks if phi(mark) < len(window) and has_mark(window, mark)]


def has_mark(window, mark):
    return first_crossing(window, mark) is None


def crossing(window, mark, rest):
    """The rest sums at mark that the sets of its prime divisors reach from the rest, with their signs."""
    need_window(window)
    need_mark(mark)
    need_number(rest, 0, mark - 1)
    return _crossings(window, mark)[rest]


def first_crossing(window, mark):
    """The least rest whose crossing is not 0, or None."""
    need_window(window)
    need_mark(mark)
    for rest, number in enumerate(_crossings(window, mark)):
        if number != 0:
            return rest
    return None


def multiplicity(window, mark):
    """How many times the window can be divided by the mark's own factor of flat windows."""
    need_window(window)
    need_mark(mark)
    factor = mark_factor(mark)
    times = 0
    left = divided(window, factor)
    while left is not None:
        times += 1
        left = divided(left, factor)
    return times


def order_at(window, hop):
    """How many moments of the window at hop, from the power 0 on, are the same at all rests."""
    need_window(window)
    need_hop(hop, 2)
    order = 0
    entries = window
    # This ends: the order is the multiplicity of a factor with more than one entry.
    while are_equal(sums_at(entries, hop)):
        order += 1
        entries = _by_their_numbers(entries)
    return order


def moments(window, hop, power):
    """The rest sums at hop of the entries times that power of their numbers."""
    need_window(window)
    need_hop(hop)
    need_number(power, 0, GREATEST_POWER)
    entries = window
    for _ in range(power):
        entries = _by_their_numbers(entries)
    return sums_at(entries, hop)


def _by_their_numbers(entries):
    return [number * entry for number, entry in enumerate(entries)]


def _crossings(window, mark):
    """The list of the crossings at all rests."""
    numbers = sums_at(window, mark)
    # Each prime doubles the sets: those without it, and those with it, moved by mark / prime and with the other sign.
    for prime in prime_divisors(mark):
        step = mark // prime
        numbers = [numbers[rest] - numbers[(rest + step) % mark] for rest in range(mark)]
    return numbers
