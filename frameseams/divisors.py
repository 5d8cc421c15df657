"""The shortest windows for wished hops, and what is left of windows that are divided by them."""

from frameseams.checks import GREATEST_HOP, MOST_ENTRIES, is_within, need_hop, need_mark
from frameseams.entries import divided, multiplied
from frameseams.errors import InvalidHops, InvalidNumber
from frameseams.factors import divisors_of_any, mark_factor, phi
from frameseams.rests import need_even
from frameseams.windows import need_window

MOST_HOPS = 6


def mark_list(mark):
    """The factor that the flat windows of all multiples of mark have, and no other flat ones."""
    need_mark(mark)
    if phi(mark) >= MOST_ENTRIES:
        raise InvalidNumber(f"the mark's list has more than {MOST_ENTRIES} entries")
    return mark_factor(mark)


def least_window(hops):
    """The shortest window that is even at all the hops."""
    _need_hops(hops)
    window = [1]
    for divisor in divisors_of_any(hops):
        if divisor > 1:
            window = multiplied(window, mark_factor(divisor))
    return window


def sight(hops):
    """How many entries the shortest window has."""
    _need_hops(hops)
    return _entries_for(hops)


def common_hops(hops):
    """The ascending list of all hops of the shortest window."""
    _need_hops(hops)
    return divisors_of_any(hops)


def quotient(window, hop):
    """The list whose product with the flat window of hop is the window."""
    need_window(window)
    need_hop(hop)
    need_even(window, hop)
    return divided(window, [1] * hop)


def quotient_by(window, hops):
    """The list whose product with the shortest window for the hops is the window."""
    need_window(window)
    _need_hops(hops)
    for hop in sorted(hops):
        need_even(window, hop)
    return divided(window, least_window(hops))


def unseen(hops):
    """A list of integers whose rest sums are 0 at all the hops."""
    _need_hops(hops)
    return multiplied(least_window(hops), [-1, 1])


def _need_hops(hops):
    if not _are_hops(hops):
        raise InvalidHops(f"no list of 1 to {MOST_HOPS} hops for which {MOST_ENTRIES} entries are enough")


def _are_hops(thing):
    if not isinstance(thing, list) or not 1 <= len(thing) <= MOST_HOPS:
        return False
    if not all([is_within(hop, 1, GREATEST_HOP) for hop in thing]):
        return False
    return _entries_for(thing) <= MOST_ENTRIES


def _entries_for(hops):
    # The 1 that the sum over the divisors above 1 needs is phi(1).
    return sum([phi(divisor) for divisor in divisors_of_any(hops)])
